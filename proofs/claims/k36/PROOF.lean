import PyProof.Rows.All
import Wide.All
import OpenK.AllK
import Wide.FinOn
import Lean
import PyProof.EqAt
import PyProof.EqKinds
import PyProof.TupleCall
import PySem.Challenge.RW_mendsure_k36_whole_answers
set_option Elab.async false
set_option linter.all false
set_option hygiene false
set_option genSizeOfSpec false
set_option compiler.extract_closed false
local macro_rules|`(↑4)=>`(model X.prog X.w)
local macro_rules|`(↑5)=>`(B.length)
local macro_rules|`(↑6)=>`(model prog w)
local macro_rules|`(↑7)=>`(Keyed->Keyed->Bool)
local macro_rules|`(↑8)=>`(xs.length)
local macro_rules|`(↑9)=>`( ∀b∈as,(∀d∈b.2,xK d)/\b.2.length<=4)
local macro_rules|`(↑10)=>`(vs.length)
local macro_rules|`(↑11)=>`(by decide)
local macro_rules|`(↑12)=>`(ds.length)
local macro_rules|`(↑13)=>`(Dr P w K mg base Ŝ 1 2 [Ŗ,ŗ] zC)
local macro_rules|`(↑14)=>`(a.heap.objs.size)
local macro_rules|`(↑15)=>`( ∀b∈ch,(b∈X.ex\/X.s₀.heap.objs.size<=b)/\b≠X.env.locals/\(∀x c,X.env.cells.lookup x=some c->c≠b)/\ ∀p∈X.pn++pins,p.1≠b)
local macro_rules|`(↑16)=>`(Cmp M A E s kd D lt)
local macro_rules|`(↑17)=>`(Z.length)
local macro_rules|`(↑18)=>`(kJ (.int 1))
local macro_rules|`(↑19)=>`(.ListComp elt [⟨tg,iter,ifs,0⟩] sc pos)
local macro_rules|`(↑20)=>`(X.A.units+64<cLine)
local macro_rules|`(↑21)=>`(List MV->Sto->R Er)
local macro_rules|`(↑22)=>`(∀c o,c≠z->c≠TO->c≠i1->c≠i2->s.heap.get? c=some o->h'.get? c=some o)
local macro_rules|`(↑23)=>`(iB 2 (zB (zV 3) (zB (zV 4) zY)))
local macro_rules|`(↑24)=>`(MV->Rho->Sto->R Rho)
local macro_rules|`(↑25)=>`(I.hok.fresh (à _))
local macro_rules|`(↑26)=>`(ZB _ (á _ rfl) rfl rfl)
local macro_rules|`(↑27)=>`(Wd X.g α S H)
local macro_rules|`(↑28)=>`(SB a₀ kd pd f lo st)
local macro_rules|`(↑29)=>`(apos.endLine==pos.line)
local macro_rules|`(↑30)=>`( ∀x,x∈a₀.toList->D x)
local macro_rules|`(↑31)=>`(kJ (.int 0))
local macro_rules|`(↑32)=>`(λxs H Q=> ∃α l vs ds kvs,xs=[.ref l]/\SqL X.K H l vs/\DenL X.K α H ds vs/\iG ds=some kvs/\X.calm=true/\ ∀p ys,H p=none->DenN X.K α H (Al kvs) ys->Q (.ref p) (xV H p (DN X.prog X.w p ys)))
local macro_rules|`(↑33)=>`(iB 2 (zB (zV 0) (zB (zV 1) zY)))
local macro_rules|`(↑34)=>`(X.env.scope)
local macro_rules|`(↑35)=>`(yJ (vJ 1) wJ)
local macro_rules|`(↑36)=>`(∀b o,s.heap.get? b=some o->h'.get? b=some o)
local macro_rules|`(↑37)=>`(T.length)
local macro_rules|`(↑38)=>`(starEach (e::es) X.env)
local macro_rules|`(↑39)=>`(S++[.dic E])
local macro_rules|`(↑40)=>`(ys.length)
local macro_rules|`(↑41)=>`(yJ (vJ 0) wJ)
local macro_rules|`(↑42)=>`(x==("__debug__"))
local macro_rules|`(↑43)=>`(Rho->Sto->R (List Er))
local macro_rules|`(↑44)=>`(j.length)
local macro_rules|`(↑45)=>`(items.size)
local macro_rules|`(↑46)=>`(List (NK×Addr×Ŕ))
local macro_rules|`(↑47)=>`(typeOf (.builtin id)=pure (.type "method_descriptor"))
local macro_rules|`(↑48)=>`(keywordEach [] X.env)
local macro_rules|`(↑49)=>`(by simpa using d)
local macro_rules|`(↑50)=>`(by decide+kernel)
local macro_rules|`(↑51)=>`(TwoA lt a b o i j)
local macro_rules|`(↑52)=>`(a.toList++b.toList)
local macro_rules|`(↑53)=>`(.tup [.tup #[hs,8],.tup #[as,9]])
local macro_rules|`(↑54)=>`(.Call (.Name x p) (e::es) [] pos)
local macro_rules|`(↑55)=>`(λxs H Q=>(∃z,xs=[.str z]/\z.length<=sizeLine/\Q (.int z.length) H)\/ ∃p ys,xs=[.ref p]/\(SqL X.K H p ys\/SqT X.K H p ys)/\Q (.int ↑40) H)
local macro_rules|`(↑56)=>`(iB 2 (zB (zV 4) (zB (zV 5) zY)))
local macro_rules|`(↑57)=>`(!(Builtin.Str.occurrences j i 0 ↑44 1).isEmpty)
local macro_rules|`(↑58)=>`(rs.length)
local macro_rules|`(↑59)=>`(GF X W (e::es) af)
local macro_rules|`(↑60)=>`(Apart5 z TI TO i1 i2)
local macro_rules|`(↑61)=>`(kJ (.str [118,97,114]))
local macro_rules|`(↑62)=>`((false,eval a X.env))
local macro_rules|`(↑63)=>`(λxs H Q=> ∃p ys,xs=[.ref p]/\((SqL X.K H p ys/\ ∀l,H l=none->Q (.ref l) (xV H l (.tup ys)))\/(SqT X.K H p ys/\Q (.ref p) H)))
local macro_rules|`(↑64)=>`(k==NameKind.free&&a.kind==.function&&a.names.lookup n==some .cell)
local macro_rules|`(↑65)=>`(zS X sc (XY tg) idx C j m fp)
local macro_rules|`(↑66)=>`(us.length)
local macro_rules|`(↑67)=>`(a.length)
local macro_rules|`(↑68)=>`(Set3 M A E s kd D lt a b)
local macro_rules|`(↑69)=>`(Set2 M A E s kd D lt a b)
local macro_rules|`(↑70)=>`(A.handled=none)
local macro_rules|`(↑71)=>`(λxs H Q=> ∃α S r x t T,xs=[x,.ty T]/\Wd X.g α S H/\DenX X.K α H r x/\oE S r=some t/\known T=true/\Q (.bl (OY t T)) H)
local macro_rules|`(↑72)=>`(λxs H Q=> ∃d ks,xs=[.ref d]/\DK X H d ks/\X.calm=true/\ ∀l,H l=none->Q (.ref l) (xV H l (.lst (ks.map λp=>kV p.1))))
local macro_rules|`(↑73)=>`(DenL K α H ds vs)
local macro_rules|`(↑74)=>`( ∀r∈rows,r.1=a.1->a.2.length=r.2.length)
local macro_rules|`(tactic|rw[20])=>`(tactic|refine V0 λg=>?_)
local macro_rules|`(tactic|rw[21])=>`(tactic|show wpAny _ _ (if _=true then _ else _) _ _ s)
local macro_rules|`(tactic|rw[22])=>`(tactic|intro pins s σ H Q I h)
local macro_rules|`(tactic|rw[23])=>`(tactic|intro X hP hw hK hc i pins s σ H E I hf st hg)
local macro_rules|`(tactic|rw[24])=>`(tactic|have off: ∀{k:Bool}{l:Addr}{xs:List V},IA k X.K H l xs->Off l z TO i1 i2:=λq=>⟨mG I q (hf z (by simp)),mG I q (hf TO (by simp)),mG I q (hf i1 (by simp)),mG I q (hf i2 (by simp))⟩)
local macro_rules|`(tactic|rw[25])=>`(tactic|show wpAny _ _ _ _ _ _)
local macro_rules|`(tactic|rw[26])=>`(tactic|repeat (any_goals (first |assumption|wp_step)))
local macro_rules|`(tactic|rw[27])=>`(tactic|refine wpS_bind (wpS_get ?_))
local macro_rules|`(tactic|rw[28])=>`(tactic|refine wB (wP ?_))
local macro_rules|`(tactic|rw[29])=>`(tactic|exact I1.fpOk (à _) (I1.hok.fresh (à _)))
local macro_rules|`(tactic|rw[30])=>`(tactic|rw[iN (by simp)])
local macro_rules|`(tactic|rw[31])=>`(tactic|refine V0 λbw=>?_)
local macro_rules|`(tactic|rw[32])=>`(tactic|show wpAny _ _ (field _ 2 >>= _) _ _ _)
local macro_rules
  | `(tactic| lia) => `(tactic| first | assumption | exact Nat.lt_of_le_of_lt (by assumption) (by decide) | exact Nat.le_trans (by assumption) (by decide) | exact Nat.le_of_lt (by assumption) | exact Nat.lt_of_lt_of_le (by assumption) (by assumption) | exact Nat.le_trans (by assumption) (by assumption) | exact Nat.lt_of_le_of_lt (by assumption) (by assumption) | exact Nat.le_add_right _ _ | exact Nat.le_add_left _ _ | exact Nat.lt_succ_self _ | (lia +ring))
local macro_rules|`(↑0)=>`(s.heap.objs.size)
local macro_rules|`(↑1)=>`(S.length)
local macro_rules|`(↑2)=>`(Inv X pins σ H s)
local macro_rules|`(↑3)=>`((e::es).length+([]:List Keyword).length+(if([]:List Keyword).isEmpty then 0 else 1)<30)
set_option maxRecDepth 100000
noncomputable section
set_option bootstrap.genMatcherCode false
open List (all_map all_toArray cons_lt_cons_iff drop_eq_getElem_cons drop_of_length_le drop_take drop_zero ext_getElem? filterMap_cons filterMap_cons_some find?_cons flatten_cons forIn_cons forIn_nil getD_eq_getElem?_getD getElem?_append_left getElem?_append_right getElem?_cons_succ getElem?_drop getElem?_eq_none getElem?_map getElem?_of_mem getElem?_set_ne getElem?_set_self getElem?_take_of_lt getElem_drop getElem_inj getElem_mem getElem_take length_filterMap_le length_range length_zip lookup_cons map_congr_left mem_append_left mem_filterMap mem_map_of_mem mem_of_getElem? mem_of_mem_take mem_range nodup_append nodup_cons nodup_nil of_mem_zip pairwise_append pairwise_map replicate_succ set_append_left set_append_right set_cons_succ take_append_drop take_length take_of_length_le zipIdx_cons zipIdx_nil zip_cons_cons zip_nil_left)
open Nat (add_assoc le_of_eq le_of_lt le_succ lt_irrefl lt_of_le_of_lt lt_trans min_eq_left mul_le_mul sub_self zero_le)
abbrev à:=@Nat.le_refl
abbrev á:=@PySem.Heap.get?_push_size
abbrev â:=@List.getElem?_append_left
abbrev ã:=@PySem.Heap.lt_size
abbrev ä:=@Option.some.inj
abbrev å:=@List.map_cons
abbrev æ:=@List.getElem?_append_right
abbrev ç:=@Nat.lt_of_lt_of_le
abbrev è:=@List.mem_of_getElem?
abbrev é:=@Nat.ne_of_lt
abbrev ê:=@List.mem_append
abbrev ë:=@PySem.wpAny_call_entry
abbrev ì:=@List.pairwise_append
abbrev í:=@PySem.wpAny_callSpecial?_slot
abbrev î:=@Option.isSome_iff_exists
abbrev ï:=@Array.length_toList
abbrev ð:=@Array.getElem?_toList
abbrev ñ:=@List.map_append
abbrev ò:=@PySem.wpAny_field
abbrev ó:=@List.getElem?_map
abbrev ô:=@Nat.le_trans
abbrev õ:=@List.mem_append_right
abbrev ö:=@PySem.wpAny_setField_rec
abbrev ø:=@List.length_nil
abbrev ù:=@PySem.wpAny_holding
abbrev ú:=@Nat.ne_of_gt
abbrev û:=@PySem.wpAny_mono
abbrev ü:=@PySem.wpAny_newObj_type
abbrev ý:=@Array.toList_append
abbrev þ:=@PySem.Heap.get?_update_other
abbrev ÿ:=@List.all_eq_true
abbrev Ā:=@PySem.wpAny_loadPart'
abbrev ā:=@Classical.choose_spec
abbrev Ă:=@Nat.zero_add
abbrev ă:=@List.mem_append_left
abbrev Ą:=@List.mem_map_of_mem
abbrev ą:=@List.length_drop
abbrev Ć:=@PySem.wpAny_attempt
abbrev ć:=@PySem.wpAny_truthy_bool
abbrev Ĉ:=@Int.toNat_natCast
abbrev ĉ:=@List.take_of_length_le
abbrev Ċ:=@Array.getElem?_eq_getElem
abbrev ċ:=@List.length_set
abbrev Č:=@PyProof.Rows.wpS_forRange
abbrev č:=@PySem.Heap.SameBut.update
abbrev Ď:=@List.length_filter_le
abbrev ď:=@PySem.wpAny_dictEntries
abbrev Đ:=@PySem.F.slot_zip_next
abbrev đ:=@List.length_replicate
abbrev Ē:=@PyProof.Rows.callWith_type1
abbrev ē:=@List.replicate_succ
abbrev Ĕ:=@PySem.Heap.size_push
abbrev ĕ:=@PySem.wpAny_seqItems
abbrev Ė:=@List.map_congr_left
abbrev ė:=@of_decide_eq_true
abbrev Ę:=@List.mem_filter
abbrev ę:=@PySem.wpAny_notOrdered_dict
abbrev Ě:=@PySem.wpAny_isInstance
abbrev ě:=@Nat.le_add_right
abbrev Ĝ:=@List.getElem?_cons_succ
abbrev ĝ:=@PySem.sizeLine_eq
abbrev Ğ:=@PySem.wpAny_rule
abbrev ğ:=@List.getElem?_set_self
abbrev Ġ:=@List.getElem?_set_ne
abbrev ġ:=@Array.size_push
abbrev Ģ:=@PySem.codeAny_builtin
abbrev ģ:=@PySem.wpAny_dictEpoch
abbrev Ĥ:=@PySem.wpAny_typeOf
abbrev ĥ:=@List.nodup_append
abbrev Ħ:=@List.length_range
abbrev ħ:=@List.map_map
abbrev Ĩ:=@Bool.not_true
abbrev ĩ:=@List.cons_append
abbrev Ī:=@List.set_append_right
abbrev ī:=@List.getD_eq_getElem?_getD
abbrev Ĭ:=@PyProof.Rows.slot_tuple_getitem
abbrev ĭ:=@List.drop_eq_getElem_cons
abbrev Į:=@PySem.wpAny_typeNameOfWhole_itemiter
abbrev į:=@PySem.wpAny_typeNameOfWhole_valiter
abbrev İ:=@PySem.wpAny_typeNameOfWhole_keyiter
abbrev ı:=@List.getElem?_take_of_lt
abbrev Ĳ:=@List.length_filterMap_le
abbrev ĳ:=@List.filterMap_cons
abbrev Ĵ:=@Array.getElem?_eq_none
abbrev ĵ:=@Nat.lt_irrefl
abbrev Ķ:=@PySem.Obj.data_mapFields
abbrev ķ:=@PySem.Heap.get?_update_self
abbrev ĸ:=@List.set_append_left
abbrev Ĺ:=@PySem.F.slot_tuple_iterator_next
abbrev ĺ:=@Array.perm_iff_toList_perm
abbrev Ļ:=@Option.ne_none_iff_exists'
abbrev ļ:=@PySem.wpAny_pyIter_list
abbrev Ľ:=@PySem.F.args_zip_next_1
abbrev ľ:=@List.getElem?_eq_none_iff
abbrev Ŀ:=@List.length_zip
abbrev ŀ:=@List.getElem_mem
abbrev Ł:=@List.nodup_nil
abbrev ł:=@Nat.lt_of_le_of_lt
abbrev Ń:=@PySem.wpAny_setField
abbrev ń:=@PySem.isSubtype_stop
abbrev Ņ:=@List.filterMap_cons_none
abbrev ņ:=@PySem.F.entry_zip_next
abbrev Ň:=@List.take_append_drop
abbrev ň:=@List.map_nil
abbrev ŉ:=@List.cons_lt_cons_iff
abbrev Ŋ:=@beq_eq_false_iff_ne
abbrev ŋ:=@List.filterMap_cons_some
abbrev Ō:=@PySem.wpAny_getItem_str_slice
abbrev ō:=@List.zip_cons_cons
abbrev Ŏ:=@PySem.plainId_quiet
abbrev ŏ:=@List.foldl_cons
abbrev Ő:=@List.nil_append
abbrev ő:=@List.mem_range
abbrev Œ:=@List.lookup_cons
abbrev œ:=PySem.Shared
abbrev Ŕ:=PySem.Value
abbrev ŕ:=PySem.Program
def q0{n:Nat}:n<=n:=Nat.le_refl n
def xF0:¬(false=true):=Bool.false_ne_true
abbrev dF0:=@decide_eq_false
abbrev dT0:=@decide_eq_true
abbrev iP:=@if_pos
abbrev iN:=@if_neg
abbrev mC:=@List.mem_cons
abbrev lC:=@List.length_cons
abbrev mO:=@List.mem_cons_of_mem
abbrev lM:=@List.length_map
abbrev nM:=@List.not_mem_nil
abbrev mS:=@List.mem_singleton
abbrev mF0:=@List.mem_cons_self
abbrev fT:=@Bool.false_eq_true
abbrev sA0:=@List.size_toArray
abbrev lS:=@List.length_singleton
abbrev eL:=@Int.emod_lt_of_pos
abbrev eN:=@Int.emod_nonneg
abbrev aE:=@Bool.and_eq_true
abbrev iF:=@if_false
abbrev aN:=@List.append_nil
abbrev lA:=@List.length_append
abbrev gS:=@List.getElem?_eq_some_iff
abbrev gE:=@List.getElem?_eq_getElem
abbrev wB:=@PySem.wpAny_bind
abbrev wP:=@PySem.wpAny_pure
abbrev hP0:=@PySem.Heap.get?_push_of_some
abbrev mM:=@List.mem_map
abbrev lT:=@List.length_take
abbrev aA:=@List.append_assoc
abbrev VP:=PySem.Value->PySem.Shared->Prop
abbrev U0:=PySem.W.Frag
abbrev Q0:=List PySem.Expr
abbrev P0:=Option Int
abbrev O0:=List Bool
abbrev L1:=List (PySem.Addr×PySem.Obj)
abbrev K0:=PySem.Str->Option PySem.Value
abbrev C0:=List PySem.Str
abbrev B9:=List PySem.Addr
abbrev B0:=Array PySem.Value
abbrev A0:=List PySem.Value
abbrev Za:=List Int
abbrev Tk:=List (Int×Int)
abbrev Db:=List Nat
abbrev Ch:=List (List Nat)
set_option bootstrap.genMatcherCode true in
local macro_rules
 |`(#[0])=>`(by lia)
abbrev Ŗ:="_law_well"
abbrev ŗ:="_law_many"
abbrev Ř:="_law_atoms_here"
abbrev ř:="_law_tables_here"
abbrev Ś:="_law_pool_here"
abbrev ś:="_law_script"
abbrev Ŝ:="_law_take"
abbrev ŝ:="_law_cells"
abbrev Ş:="_law_names_here"
abbrev ş:="_law_question"
abbrev Š:="_law_k"
abbrev š:="_law_names_in"
abbrev Ţ:="_law_rows_here"
abbrev ţ:="_law_terms"
abbrev Ť:="_law_most"
abbrev ť:="_law_digits"
abbrev Ŧ:="_law_word_here"
abbrev ŧ:="_law_cell_at"
abbrev Ũ:="_law_word"
abbrev ũ:="_law_values"
abbrev Ū:="_law_tables"
abbrev ū:="_law_head_here"
abbrev Ŭ:="_law_atoms"
abbrev ŭ:="_law_names"
abbrev Ů:="_law_order"
abbrev ů:="_law_found"
abbrev Ű:="_law_cell"
abbrev ű:="_law_pool"
abbrev Ų:="_law_rows"
abbrev ų:="_law_term"
abbrev Ŵ:="_law_head"
abbrev ŵ:="_law_goes"
abbrev Ŷ:="_law_t"
abbrev ŷ:="_law_row"
abbrev Ÿ:="_law_one"
abbrev Ź:="_law_extra"
abbrev ź:="_law_there"
abbrev Ż:="_law_found_here"
abbrev ż:="_law_name"
abbrev Ž:="_law_old"
abbrev ž:="_law_new"
@[elab_as_elim]theorem qq{α:Sort u}{a b:α}{P:α->Prop}(h:a=b)(e:P b):P a:=h▸e
theorem V0{P:Prop}(h:(P->False)->False):P:=Classical.byContradiction h
section
variable{α β γ δ ε ζ η θ ι κ μ ν ξ π ρ:Type}{R:Prop}
theorem And.e{A B C:Prop}(h:A/\B/\C)(k:A->B->C->R):R:=h.elim λa h=>h.elim (k a)
theorem And.h{A B C D:Prop}(h:A/\B/\C/\D)(k:A->B->C->D->R):R:=h.elim λa h=>h.e (k a)
theorem And.n{A B C D E:Prop}(h:A/\B/\C/\D/\E)(k:A->B->C->D->E->R):R:=h.elim λa h=>h.h (k a)
theorem And.f{A B C D E F:Prop}(h:A/\B/\C/\D/\E/\F)(k:A->B->C->D->E->F->R):R:=h.elim λa h=>h.n (k a)
theorem And.s{A B C D E F G:Prop}(h:A/\B/\C/\D/\E/\F/\G)(k:A->B->C->D->E->F->G->R):R:=h.elim λa h=>h.f (k a)
theorem And.u{A B C D E F G H:Prop}(h:A/\B/\C/\D/\E/\F/\G/\H)(k:A->B->C->D->E->F->G->H->R):R:=h.elim λa h=>h.s (k a)
theorem And.r{A B C D E F G H I:Prop}(h:A/\B/\C/\D/\E/\F/\G/\H/\I)(k:A->B->C->D->E->F->G->H->I->R):R:=h.elim λa h=>h.u (k a)
theorem Exists.m{A:α->β->Prop}(h: ∃x y,A x y)(k: ∀x y,A x y->R):R:=h.elim λ_ h=>h.elim (k _)
theorem Exists.g{A:α->β->γ->Prop}(h: ∃x y z,A x y z)(k: ∀x y z,A x y z->R):R:=h.elim λ_ h=>h.m (k _)
theorem Exists.j{A:α->β->γ->δ->Prop}(h: ∃x y z u,A x y z u)(k: ∀x y z u,A x y z u->R):R:=h.elim λ_ h=>h.g (k _)
theorem Exists.p{A:α->β->γ->δ->ε->Prop}(h: ∃x y z u v,A x y z u v)(k: ∀x y z u v,A x y z u v->R):R:=h.elim λ_ h=>h.j (k _)
theorem Exists.t{A:α->β->γ->δ->ε->ζ->Prop}(h: ∃x y z u v w,A x y z u v w)(k: ∀x y z u v w,A x y z u v w->R):R:=h.elim λ_ h=>h.p (k _)
theorem Exists.w{A:α->β->γ->δ->ε->ζ->η->Prop}(h: ∃x y z u v w p,A x y z u v w p)(k: ∀x y z u v w p,A x y z u v w p->R):R:=h.elim λ_ h=>h.t (k _)
theorem Exists.x{A:α->β->γ->δ->ε->ζ->η->θ->Prop}(h: ∃x y z u v w p q,A x y z u v w p q)(k: ∀x y z u v w p q,A x y z u v w p q->R):R:=h.elim λ_ h=>h.w (k _)
theorem Exists.v{A:α->β->γ->δ->ε->ζ->η->θ->ι->Prop}(h: ∃x y z u v w p q r,A x y z u v w p q r)(k: ∀x y z u v w p q r,A x y z u v w p q r->R):R:=h.elim λ_ h=>h.x (k _)
theorem Exists.B{A:α->β->γ->δ->ε->ζ->η->θ->ι->κ->Prop}(h: ∃x y z u v w p q r s,A x y z u v w p q r s)(k: ∀x y z u v w p q r s,A x y z u v w p q r s->R):R:=h.elim λ_ h=>h.v (k _)
theorem Exists.z{A:α->β->γ->δ->ε->ζ->η->θ->ι->κ->μ->ν->Prop}(h: ∃x y z u v w p q r s t a,A x y z u v w p q r s t a)(k: ∀x y z u v w p q r s t a,A x y z u v w p q r s t a->R):R:=h.elim λ_ h=>h.elim λ_ h=>h.B (k _ _)
theorem Exists.y{A:α->β->γ->δ->ε->ζ->η->θ->ι->κ->μ->ν->ξ->π->Prop}(h: ∃x y z u v w p q r s t a b c,A x y z u v w p q r s t a b c)(k: ∀x y z u v w p q r s t a b c,A x y z u v w p q r s t a b c->R):R:=h.elim λ_ h=>h.elim λ_ h=>h.z (k _ _)
theorem Exists.A{A:α->β->γ->δ->ε->ζ->η->θ->ι->κ->μ->ν->ξ->π->ρ->Prop}(h: ∃x y z u v w p q r s t a b c d,A x y z u v w p q r s t a b c d)(k: ∀x y z u v w p q r s t a b c d,A x y z u v w p q r s t a b c d->R):R:=h.elim λ_ h=>h.y (k _)
theorem Exists.a{A B:α->Prop}(h: ∃x,A x/\B x)(k: ∀x,A x->B x->R):R:=h.elim λ_ h=>h.elim (k _)
theorem Exists.b{A B C:α->Prop}(h: ∃x,A x/\B x/\C x)(k: ∀x,A x->B x->C x->R):R:=h.elim λ_ h=>h.e (k _)
theorem Exists.d{A B:α->β->Prop}(h: ∃x y,A x y/\B x y)(k: ∀x y,A x y->B x y->R):R:=h.m λ_ _ h=>h.elim (k _ _)
theorem Exists.c{A B C:α->β->Prop}(h: ∃x y,A x y/\B x y/\C x y)(k: ∀x y,A x y->B x y->C x y->R):R:=h.m λ_ _ h=>h.e (k _ _)
theorem Exists.k{A B C D:α->β->Prop}(h: ∃x y,A x y/\B x y/\C x y/\D x y)(k: ∀x y,A x y->B x y->C x y->D x y->R):R:=h.m λ_ _ h=>h.h (k _ _)
theorem Exists.l{A B C D E:α->β->Prop}(h: ∃x y,A x y/\B x y/\C x y/\D x y/\E x y)(k: ∀x y,A x y->B x y->C x y->D x y->E x y->R):R:=h.m λ_ _ h=>h.n (k _ _)
theorem Exists.i{A B C D E:α->β->γ->Prop}(h: ∃x y z,A x y z/\B x y z/\C x y z/\D x y z/\E x y z)(k: ∀x y z,A x y z->B x y z->C x y z->D x y z->E x y z->R):R:=h.g λ_ _ _ h=>h.n (k _ _ _)
theorem Exists.o{A B C D E:α->β->γ->δ->Prop}(h: ∃x y z u,A x y z u/\B x y z u/\C x y z u/\D x y z u/\E x y z u)(k: ∀x y z u,A x y z u->B x y z u->C x y z u->D x y z u->E x y z u->R):R:=h.j λ_ _ _ _ h=>h.n (k _ _ _ _)
theorem Exists.q{A B C D E:α->β->γ->δ->ε->Prop}(h: ∃x y z u v,A x y z u v/\B x y z u v/\C x y z u v/\D x y z u v/\E x y z u v)(k: ∀x y z u v,A x y z u v->B x y z u v->C x y z u v->D x y z u v->E x y z u v->R):R:=h.p λ_ _ _ _ _ h=>h.n (k _ _ _ _ _)
theorem Z3{A B:α->Prop}(x)(h0:A x)(h1:B x): ∃x,A x/\B x:=⟨_,h0,h1⟩
theorem ZB{A B C:α->Prop}(x)(h0:A x)(h1:B x)(h2:C x): ∃x,A x/\B x/\C x:=⟨_,h0,h1,h2⟩
theorem Yk{A:α->β->Prop}(x y)(h:A x y): ∃x y,A x y:=⟨_,_,h⟩
theorem YS{A B:α->β->Prop}(x y)(h0:A x y)(h1:B x y): ∃x y,A x y/\B x y:=⟨_,_,h0,h1⟩
theorem Z0{A B C:α->β->Prop}(x y)(h0:A x y)(h1:B x y)(h2:C x y): ∃x y,A x y/\B x y/\C x y:=⟨_,_,h0,h1,h2⟩
theorem Ym{A B C D:α->β->Prop}(x y)(h0:A x y)(h1:B x y)(h2:C x y)(h3:D x y): ∃x y,A x y/\B x y/\C x y/\D x y:=⟨_,_,h0,h1,h2,h3⟩
theorem XD{A B C D E:α->β->Prop}(x y)(h0:A x y)(h1:B x y)(h2:C x y)(h3:D x y)(h4:E x y): ∃x y,A x y/\B x y/\C x y/\D x y/\E x y:=⟨_,_,h0,h1,h2,h3,h4⟩
theorem YR{A:α->β->γ->Prop}(x y z)(h:A x y z): ∃x y z,A x y z:=⟨_,_,_,h⟩
theorem XE{A B:α->β->γ->Prop}(x y z)(h0:A x y z)(h1:B x y z): ∃x y z,A x y z/\B x y z:=⟨_,_,_,h0,h1⟩
theorem XV{A B C D E:α->β->γ->Prop}(x y z)(h0:A x y z)(h1:B x y z)(h2:C x y z)(h3:D x y z)(h4:E x y z): ∃x y z,A x y z/\B x y z/\C x y z/\D x y z/\E x y z:=⟨_,_,_,h0,h1,h2,h3,h4⟩
theorem YQ{A:α->β->γ->δ->Prop}(x y z u)(h:A x y z u): ∃x y z u,A x y z u:=⟨_,_,_,_,h⟩
theorem WX{A:α->β->γ->δ->ε->Prop}(x y z u v)(h:A x y z u v): ∃x y z u v,A x y z u v:=⟨_,_,_,_,_,h⟩
theorem XL{A B C D E F:α->β->γ->δ->ε->Prop}(x y z u v)(h0:A x y z u v)(h1:B x y z u v)(h2:C x y z u v)(h3:D x y z u v)(h4:E x y z u v)(h5:F x y z u v): ∃x y z u v,A x y z u v/\B x y z u v/\C x y z u v/\D x y z u v/\E x y z u v/\F x y z u v:=⟨_,_,_,_,_,h0,h1,h2,h3,h4,h5⟩
theorem WW{A:α->β->γ->δ->ε->ζ->Prop}(x y z u v w)(h:A x y z u v w): ∃x y z u v w,A x y z u v w:=⟨_,_,_,_,_,_,h⟩
theorem WI{A:α->β->γ->δ->ε->ζ->η->Prop}(x y z u v w p)(h:A x y z u v w p): ∃x y z u v w p,A x y z u v w p:=⟨_,_,_,_,_,_,_,h⟩
theorem WD{A:α->β->γ->δ->ε->ζ->η->θ->Prop}(x y z u v w p q)(h:A x y z u v w p q): ∃x y z u v w p q,A x y z u v w p q:=⟨_,_,_,_,_,_,_,_,h⟩
theorem We{A:α->β->γ->δ->ε->ζ->η->θ->ι->Prop}(x y z u v w p q r)(h:A x y z u v w p q r): ∃x y z u v w p q r,A x y z u v w p q r:=⟨_,_,_,_,_,_,_,_,_,h⟩
theorem Wf{A:α->β->γ->δ->ε->ζ->η->θ->ι->κ->Prop}(x y z u v w p q r s)(h:A x y z u v w p q r s): ∃x y z u v w p q r s,A x y z u v w p q r s:=⟨_,_,_,_,_,_,_,_,_,_,h⟩
theorem Wa{A:α->β->γ->δ->ε->ζ->η->θ->ι->κ->μ->ν->Prop}(x y z u v w p q r s t a)(h:A x y z u v w p q r s t a): ∃x y z u v w p q r s t a,A x y z u v w p q r s t a:=⟨_,_,_,_,_,_,_,_,_,_,_,_,h⟩
theorem Wi{A:α->β->γ->δ->ε->ζ->η->θ->ι->κ->μ->ν->ξ->π->ρ->Prop}(x y z u v w p q r s t a b c d)(h:A x y z u v w p q r s t a b c d): ∃x y z u v w p q r s t a b c d,A x y z u v w p q r s t a b c d:=⟨_,_,_,_,_,_,_,_,_,_,_,_,_,_,_,h⟩
end
namespace L2
open PySem PySem.Spec PyProof.Rows
abbrev Key:=Sum Int Str
noncomputable def oX:Key->Ŕ->Bool
 |.inl k,v=>Value.isInt k v
 |.inr x,v=>Value.isStrOf x v
noncomputable def O8(w:World):Key->Int
 |.inl k=>hashInt k
 |.inr x=>hashStr w x
def yB: ∀{k}{v},oX k v=true->(∃i t,k=Sum.inl i/\v=Value.int i t)\/(∃x t,k=Sum.inr x/\v=Value.str x t)
 |.inl i,v,h=>by obtain⟨t,e⟩:=Value.isInt_shape h;exact .inl (YS i t rfl e)
 |.inr x,v,h=>by obtain⟨t,e⟩:=Value.isStrOf_shape h;exact .inr (YS x t rfl e)
def Uv(a b):decide ((Sum.inl a:Key)=Sum.inl b)=(a==b):=by
 by_cases e:a=b
 .subst e;simp
 .have h: ¬(Sum.inl a:Key)=Sum.inl b:=λq=>e (Sum.inl.inj q);rw[dF0 h];exact(Ŋ.mpr e).symm
def Uw(a b):decide ((Sum.inr a:Key)=Sum.inr b)=decide (a=b):=by
 by_cases e:a=b
 .subst e;simp
 .have h: ¬(Sum.inr a:Key)=Sum.inr b:=λq=>e (Sum.inr.inj q);rw[dF0 h,dF0 e]
def Ux(a)(b):decide ((Sum.inl a:Key)=Sum.inr b)=false:=dF0 (λq=>nomatch q)
def Uy(a)(b):decide ((Sum.inr a:Key)=Sum.inl b)=false:=dF0 (λq=>nomatch q)
def wO(prog)(w):PySem.KeyKind prog w Key where
 is:=oX
 hash:=O8 w
 inj:=λv a b ha hb=>by
  rcases yB ha with⟨i,t,rfl,rfl⟩|⟨x,t,rfl,rfl⟩
  .rcases yB hb with⟨j,u,rfl,e⟩|⟨y,u,rfl,e⟩
   .injection e with e1 _;rw[e1]
   .exact nomatch e
  .rcases yB hb with⟨j,u,rfl,e⟩|⟨y,u,rfl,e⟩
   .exact nomatch e
   .injection e with e1 _;rw[e1]
 byValue:=λk v h=>by rcases yB h with⟨i,t,rfl,rfl⟩|⟨x,t,rfl,rfl⟩<;>rfl
 pyHash:=λhv h=>by
  rcases yB hv with⟨i,t,rfl,rfl⟩|⟨x,t,rfl,rfl⟩
  .exact wpAny_pyHash_int h
  .exact wpAny_pyHash_str h
 eqBool:=λhu hv h=>by
  rcases yB hu with⟨i,t,rfl,rfl⟩|⟨x,t,rfl,rfl⟩
  .rcases yB hv with⟨j,u,rfl,rfl⟩|⟨y,u,rfl,rfl⟩
   .rw[Uv]at h;exact wpAny_eqBool_int h
   .rw[Ux]at h;exact SeqAt.EqAt.int_str i t y u _ _ _ _ h
  .rcases yB hv with⟨j,u,rfl,rfl⟩|⟨y,u,rfl,rfl⟩
   .rw[Uy]at h;exact SeqAt.EqAt.str_int x t j u _ _ _ _ h
   .rw[Uw]at h;exact wpAny_eqBool_str h
 «strs»:=λk x t v h=>by
  rcases yB h with⟨i,u,rfl,e⟩|⟨y,u,rfl,e⟩
  .exact nomatch e
  .injection e with e1 _
   subst e1;cases v<;>rfl
def FB(prog)(w)(i)(t):(wO prog w).is (.inl i) (.int i t)=true:=(show oX (.inl i) (.int i t)=true by simp[oX,Value.isInt])
def sC(prog)(w)(x)(t):(wO prog w).is (.inr x) (.str x t)=true:=(show oX (.inr x) (.str x t)=true by simp[oX,Value.isStrOf])
inductive V where
 |non|bl (b:Bool)|int (i:Int)|str (x:Str)|byt (b:Array UInt8)|flt (b:UInt64)|ref (a:Addr)|ty (n:String)
 deriving DecidableEq
def RelV:V->Ŕ->Prop
 |.non,u=>u=Value.none
 |.bl b,u=>u=Value.bool b
 |.int i,u=> ∃t,u=Value.int i t
 |.str x,u=> ∃t,u=Value.str x t
 |.byt b,u=> ∃t,u=Value.bytes b t
 |.flt b,u=> ∃t,u=Value.float b t
 |.ref a,u=>u=Value.ref a
 |.ty n,u=>u=Value.type n
abbrev Vals:List V->List Value->Prop:=Paired RelV
def Vals.length(r:Vals xs us):↑8=us.length:=Paired.length r
theorem Vals.get: ∀{xs}{us}{i:Nat}{x},Vals xs us->xs[i]? =some x-> ∃u,us[i]? =some u/\RelV x u
 |_,_,_,_,.nil,e=>by simp at e
 |_,_,0,_,.cons r _,e=>by simp at e;subst e;exact⟨_,rfl,r⟩
 |_,_,i+1,x,.cons _ t,e=>by refine(Vals.get t (by simpa using e)).a λu j m=>?_;exact⟨u,by simpa using j,m⟩
theorem Vals.set(r:RelV x u): ∀{xs}{us} i ,Vals xs us->Vals (xs.set i x) (us.set i u)
 |_,_,_,.nil=>.nil
 |_,_,0,.cons _ t=>.cons r t
 |_,_,i+1,.cons q t=>.cons q (Vals.set r i t)
theorem Vals.append: ∀{xs ys}{us ws},Vals xs us->Vals ys ws->Vals (xs++ys) (us++ws)
 |_,_,_,_,.nil,s=>s
 |_,_,_,_,.cons r t,s=>.cons r (Vals.append t s)
theorem Vals.take: ∀{xs}{us} n ,Vals xs us->Vals (xs.take n) (us.take n)
 |_,_,0,_=>.nil
 |_,_,_+1,.nil=>.nil
 |_,_,n+1,.cons r t=>.cons r (Vals.take n t)
theorem Vals.drop: ∀{xs}{us} n ,Vals xs us->Vals (xs.drop n) (us.drop n)
 |_,_,0,r=>r
 |_,_,_+1,.nil=>.nil
 |_,_,n+1,.cons _ t=>Vals.drop n t
theorem Vals.none_of: ∀{xs}{us}{i:Nat},Vals xs us->xs[i]? =none->us[i]? =none:=λ{xs us i} r e=>by have a:=r.length;have b:=ľ.mp e;exact ľ.mpr #[0]
def O9:Option V->Option Ŕ->Prop
 |some v,some u=>RelV v u
 |none,none=>True
 |_,_=>False
def KV{a:Type}:List (a×V)->List (a×Ŕ)->Prop:=Paired λ(p:a×V) (q:a×Ŕ)=>p.1=q.1/\RelV p.2 q.2
noncomputable def kV:Key->V
 |.inl i=>.int i
 |.inr x=>.str x
inductive HO where
 |lst (xs:List V)
 |tup (xs:List V)
 |dK (kvs:List (Key×V))|dT (kvs:List (List Key×V))
 |set (S:Int->Bool) (n:Nat)
 |ins (C dx:Addr) (fs:List (Str×V))
 |own (x:Addr)
 |xd (fs:List (Str×V))
 |met (f x:Addr)
 |rng (lo hi:Int)
 |frz (o:Obj) (u:HO)
 |tbl (ps:B0)
 |ext (φ:Heap->Prop)
abbrev Hp:=Addr->Option HO
noncomputable def xV(H:Hp)(a:Addr)(o:HO):Hp:=λb=>if b=a then some o else H b
def zO:xV H a o a=some o:=by unfold xV;rw[iP rfl]
def zH(h:b≠a):xV H a o b=H b:=by unfold xV;rw[iN h]
def zN{H:Hp}(h:H a=some o)(h':H b=none):a≠b:=by intro e;subst e;rw[h]at h';cases h'
section
variable(P:ŕ)(w:World)
def ObjOk(H:Hp)(h:Heap)(a:Addr):HO->Prop
 |.lst xs=>xs.length<=sizeLine/\ ∃(j:A0)(n:Nat),Vals xs j/\h.get? a=some {cls:=.type "list",data:=.seq j.toArray n}
 |.tup xs=>xs.length<=sizeLine/\ ∃j:List Ŕ,Vals xs j/\IsTup h a j.toArray
 |.dK kvs=>kvs.length<=sizeLine/\(a==sysModules)=false/\ ∃vs,KV kvs vs/\h.DictOf (wO P w) a vs
 |.dT kvs=>kvs.length<=sizeLine/\(a==sysModules)=false/\ ∃xs:List (List Key×Addr×Ŕ),
   Paired (λ(p:List Key×V) (q:List Key×Addr×Ŕ)=>p.1=q.1/\H q.2.1=some (.tup (p.1.map kV))/\RelV p.2 q.2.2) kvs xs/\
   ∃o es G,h.get? a=some o/\o.ExactDict/\o.data=.dict es G/\es.toList=xs.map (entryOfKey (tupleKind (wO P w)))/\(xs.map (·.1)).Nodup
 |.set S n=>h.SetOf (intKind P w) a S n
 |.ins C dx fs=>H dx=some (.own a)/\fs.length<=1000/\dx≠a/\h.get? a=some (PySem.W.instObj C dx)/\
   ∃m,h.Ns1 dx m/\(∀f,O9 (fs.lookup f) (m f))/\PySem.Within m (fs.map (·.1))
 |.own _=> ∃o,h.get? a=some o
 |.xd fs=> ∃m,h.Ns1 a m/\ ∀f,O9 (fs.lookup f) (m f)
 |.rng lo hi=> ∃t u v,h.get? a=some {cls:=.type "range",data:=.fields #[.int lo t,.int hi u,.int 1 v]}
 |.frz o u=>h.get? a=some o/\ObjOk H h a u
 |.tbl ps=>h.get? a=some {cls:=.none,data:=.fields ps}
 |.met f x=>h.get? a=some (PySem.W.methodObj (.ref f) (.ref x))
 |.ext φ=>φ h/\(∃o,h.get? a=some o)/\ ∀z B:Heap,φ z->(∀o,z.get? a=some o->B.get? a=some o)->φ B
def HOk(H:Hp)(h:Heap):Prop:= ∀a o,H a=some o->ObjOk P w H h a o
end
section
variable{a:Addr}{o:HO}
def ObjOk.lt(x:ObjOk P w H h a o):a<h.objs.size:=by
 cases o with
 |lst xs=>obtain⟨_,_,_,_,e⟩:=x;exact ã e
 |tup xs=>obtain⟨_,_,_,p⟩:=x;exact p.lt
 |dK kvs=>obtain⟨_,_,_,_,o,_,_,e,_⟩:=x;exact ã e
 |dT kvs=>obtain⟨_,_,_,_,o,_,_,e,_⟩:=x;exact ã e
 |set S n=>refine x.j λo _ _ _ b=>b.elim λe _=>?_;exact ã e
 |ins C dx fs=>refine x.n λ_ _ _ e _=>?_;exact ã e
 |own y=>obtain⟨_,e⟩:=x;exact ã e
 |xd fs=>refine x.a λ_ d _=>?_;obtain ⟨_,_,_,e,_⟩:=d;exact ã e
 |rng lo hi=>refine x.g λ_ _ _ e=>?_;exact ã e
 |frz ob u=>obtain⟨e,_⟩:=x;exact ã e
 |tbl ps=>exact ã x
 |met f y=>exact ã x
 |ext φ=>refine x.e λ_ c _=>?_;obtain ⟨_,e⟩:=c;exact ã e
theorem Paired.mapP: ∀{j}{l₂:List β},Paired F j l₂->(∀a b,F a b->G a b)->Paired G j l₂
 |_,_,.nil,_=>.nil
 |_,_,.cons r t,f=>.cons (f _ _ r) (Paired.mapP t f)
def ObjOk.stay(x:ObjOk P w H h a o)(k: ∀b u,(b=a\/H b=some (.own a))->h.get? b=some u->h'.get? b=some u)
  (ho: ∀b,H b=some (.own a)->H' b=some (.own a)) (ht: ∀b xs,H b=some (.tup xs)->H' b=some (.tup xs)):ObjOk P w H' h' a o:=by
 induction o with
 |lst xs=>obtain⟨z,m,n,r,e⟩:=x;exact⟨z,m,n,r,k _ _ (.inl rfl) e⟩
 |tup xs=>obtain⟨z,m,r,i,e,c⟩:=x;exact⟨z,m,r,i,k _ _ (.inl rfl) e,c⟩
 |dK kvs=>obtain⟨z,y,vs,r,i,es,j,e,c⟩:=x;exact⟨z,y,vs,r,i,es,j,k _ _ (.inl rfl) e,c⟩
 |dT kvs=>
  obtain⟨z,y,xs,r,i,es,j,e,c⟩:=x;exact⟨z,y,xs,Paired.mapP r λp q z=>⟨z.1,ht _ _ z.2.1,z.2.2⟩,i,es,j,k _ _ (.inl rfl) e,c⟩
 |set S n=>refine x.j λi es j t g=>g.elim λe c=>?_;exact YQ i es j t ⟨k _ _ (.inl rfl) e,c⟩
 |ins C dx fs=>
  obtain⟨d,z,ne,e,A,⟨s,es,j,B,c⟩,r⟩:=x;exact⟨ho _ d,z,ne,k _ _ (.inl rfl) e,A,(XE s es j (k _ _ (.inr d) B) c),r⟩
 |own y=>obtain⟨i,e⟩:=x;exact⟨i,k _ _ (.inl rfl) e⟩
 |xd fs=>obtain⟨A,⟨s,es,j,e,c⟩,r⟩:=x;exact Z3 A (XE s es j (k _ _ (.inl rfl) e) c) r
 |rng lo hi=>refine x.g λt u v e=>?_;exact YR t u v (k _ _ (.inl rfl) e)
 |frz i u ih=>obtain⟨e,q⟩:=x;exact⟨k _ _ (.inl rfl) e,ih q⟩
 |tbl ps=>
  have e:=x;exact k a _ (.inl rfl) e
 |met f y=>
  have e:h.get? a=some _:=x;show h'.get? a=some _;exact k a _ (.inl rfl) e
 |ext φ=>refine x.e λp D st=>?_;obtain ⟨o,e⟩:=D;exact⟨st _ _ p λo q=>k _ _ (.inl rfl) q,⟨o,k _ _ (.inl rfl) e⟩,st⟩
def HOk.lt(x:HOk P w H h)(e:H a=some o):a<h.objs.size:=(x a o e).lt
def HOk.fresh(x:HOk P w H h)(e:h.objs.size<=a):H a=none:=by
 cases q:H a with
 |none=>rfl
 |some u=>exact absurd (ç (x.lt q) e) (ĵ _)
def HOk.kept(x:HOk P w H h)(k: ∀b u,h.get? b=some u->h'.get? b=some u):HOk P w H h':=λa o e=>
 (x a o e).stay (λb u _ q=>k b u q) (λ_ q=>q) λ_ _ q=>q
def HOk.laid(x:HOk P w H h)(k: ∀b u,h.get? b=some u->h'.get? b=some u)(i:h.objs.size<=a)(new:ObjOk P w (xV H a o) h' a o):HOk P w (xV H a o) h':=λb u e=>by
 have hn:=x.fresh i;by_cases d:b=a
 .subst d;rw[zO]at e;cases e;exact new
 .rw[zH d]at e;exact(x b u e).stay (λc v _ q=>k c v q) (λc q=>by rw[zH (zN q hn)];exact q) λc xs q=>by rw[zH (zN q hn)];exact q
end
def Rd(H:Hp)(a:Addr)(u:HO):Prop:=H a=some u\/ ∃o,H a=some (.frz o u)
def Rd.ok(r:Rd H a u)(x:HOk P w H h):ObjOk P w H h a u:=by
 rcases r with r|⟨o,r⟩
 .exact x a u r
 .obtain⟨_,q⟩:=x a _ r;exact q
def Uz:Option HO->Prop
 |some (.lst _)=>True
 |some (.dK _)=>True
 |some (.dT _)=>True
 |some (.set _ _)=>True
 |some (.ins _ _ _)=>True
 |some (.ext _)=>True
 |_=>False
section
theorem HOk.write(ok:HOk P w H h)(m:Uz (H x))(o:e=x\/H e=some (.own x))(k: ∀b u,b≠e->h.get? b=some u->h'.get? b=some u)(n: ∃u,h'.get? e=some u)
  (new:ObjOk P w (xV H x o') h' x o'):HOk P w (xV H x o') h':=λb u q=>by
 have d: ∀c y,H c=some (.own y)->c≠x:=λc y r z=>by subst z;rw[r]at m;exact m
 by_cases j:b=x
 .subst j;rw[zO]at q;cases q;exact new
 .rw[zH j]at q;by_cases a:b=e
  .have p:H b=some (.own x):=by
    rcases o with z|z
    .exact absurd (a.trans z) j
    .rw[a];exact z
   rw[q]at p;cases p;obtain⟨v,hv⟩:=n;exact⟨v,by rw[a];exact hv⟩
  .refine(ok b u q).stay (λc v i r=>k c v ?_ r) (λc r=>by rw[zH (d c b r)];exact r) λc xs r=>by rw[zH ((λc xs r z=>by subst z;rw[r]at m;exact m) c xs r)];exact r
   rcases i with rfl|i
   .exact a
   .rintro rfl;rcases o with z|z
    .exact d c b i z
    .rw[i]at z;cases z;exact j rfl
end
structure Un(fs ex:B9)(H H':Hp)(h h':Heap):Prop where
 keep: ∀b o,h.get? b=some o->H b=none->b∉fs->b∉ex->h'.get? b=some o
 slot: ∀b o,h.get? b=some o->H b=none->b∈fs->b∉ex-> ∃sl,h'.get? b=some {o with slots:=sl}
 free: ∀b o,h.get? b=some o->H b=none->b∉ex->H' b=none
 there: ∀b o,h.get? b=some o->b∉ex-> ∃o',h'.get? b=some o'
 tups: ∀b xs,H b=some (.tup xs)->H' b=some (.tup xs)
 frzs: ∀b o u,H b=some (.frz o u)->H' b=some (.frz o u)
 tbls: ∀b ps,H b=some (.tbl ps)-> ∃more,H' b=some (.tbl (ps++more))
section
variable{h:Heap}{a:Addr}
def Un.any(u:Un fs ex H H1 h h1)(q:h.get? b=some ob)(n:H b=none)(a:b∉ex): ∃sl,h1.get? b=some {ob with slots:=sl}:=by
 by_cases c:b∈fs
 .exact u.slot b ob q n c a
 .exact⟨_,u.keep b ob q n c a⟩
def Un.kept(k: ∀b u,h.get? b=some u->h'.get? b=some u):Un fs ex H H h h':=
 ⟨λb a q _ _ _=>k b a q,λb a q _ _ _=>⟨_,k b a q⟩,λ_ _ _ n _=>n,λb a q _=>⟨a,k b a q⟩,λ_ _ q=>q,λ_ _ _ q=>q,λ_ ps q=>⟨#[],by rw[q];simp⟩⟩
def Un.refl:Un fs ex H H h h:=Un.kept λ_ _ q=>q
def Un.laid(k: ∀b u,h.get? b=some u->h'.get? b=some u)(hp:h.objs.size<=a)(hn:H a=none):Un fs ex H (xV H a o) h h' where
 keep:=λb u q _ _ _=>k b u q
 slot:=λb u q _ _ _=>⟨_,k b u q⟩
 free:=λb u q n _=>by rw[zH (é (ç (ã q) hp))];exact n
 there:=λb u q _=>⟨u,k b u q⟩
 tups:=λb xs q=>by rw[zH (zN q hn)];exact q
 frzs:=λb u xs q=>by rw[zH (zN q hn)];exact q
 tbls:=λb ps q=>⟨#[],by rw[zH (zN q hn),q];simp⟩
def Un.write(c:Uz (H x))(m:e=x\/H e=some (.own x))(k: ∀b u,b≠e->h.get? b=some u->h'.get? b=some u)(d: ∃u,h'.get? e=some u):Un fs ex H (xV H x o) h h':=by
 have i: ∀b,H b=none->b≠x:=λb n z=>by subst z;rw[n]at c;exact c
 have j: ∀b,H b=none->b≠e:=λb n z=>by
  subst z;rcases m with r|r
  .exact i b n r
  .rw[n]at r;cases r
 have hm: ∀b u,H b=some u-> ¬Uz (some u)->b≠x:=λb u q nm z=>by subst z;rw[q]at c;exact nm c
 refine⟨λb u q n _ _=>k b u (j b n) q,λb u q n _ _=>⟨_,k b u (j b n) q⟩,λb u q n _=>by rw[zH (i b n)];exact n,λb u q _=>?_,
  λb xs q=>by rw[zH (hm b _ q λz=>z)];exact q,λb u xs q=>by rw[zH (hm b _ q λz=>z)];exact q,λb ps q=>⟨#[],by rw[zH (hm b _ q λz=>z),q];simp⟩⟩
 by_cases a:b=e
 .subst a;exact d
 .exact⟨u,k b u a q⟩
end
noncomputable def trk(h:Heap)(H:Hp):List Addr:=(List.range h.objs.size).filter λa=>(H a).isSome
def Bs(h:Heap)(H:Hp):Heap:=PySem.W.hideAll h (trk h H)
def Mg(e:(Bs h H).get? b=some o):h.get? b=some o/\H b=none:=by
 have a:=PySem.W.of_hideAll _ e;refine⟨a,?_⟩
 cases q:H b with
 |none=>rfl
 |some x=>
  have z:(Bs h H).get? b=none:=PySem.W.hideAll_none _ (Ę.mpr ⟨ő.mpr (ã a),by simp[q]⟩);rw[z]at e;cases e
noncomputable def Mh(g h:Heap)(L:Addr):List (Addr×Obj):=(List.range h.objs.size).filterMap λa=>if a=L\/(g.get? a).isSome=true then none else(h.get? a).map λo=>(a,o)
def rest(g h:Heap)(L d:Addr):List (Addr×Obj):=(Mh g h L).filter λp=>decide (p.1≠d)
structure Mod(K:U0)(mg:K0)(base:Heap):Prop where
 kin:K.In base
 glob:base.Ns mainGlobals mg
 blt: ∃mb,base.Ns builtinsNs mb/\ ∀x:Str,x≠"__name__"->mb x=bootBuiltins x
 nolimit:base.NoLimit
structure Cx where
 prog:ŕ
 w:World
 K:PySem.W.Frag
 mg:Str->Option Ŕ
 base:Heap
 A:Around
 N:List Str
 s₀:œ
 H₀:Hp
 env:Env
 outer:List Env
 stack:List Env
 ex:List Addr
 fn:Str->Bool
 calm:Bool
 pn:List (Addr×Obj)
 xe:VP
noncomputable def Ez(l:List Env):List Addr:=l.filterMap (·.frame)
abbrev Cx.fs(X:Cx):List Addr:=Ez X.outer
def zBQ(a:Scope)(x:Str):Prop:=a.names.lookup x=some .local\/a.names.lookup x=some .cell\/a.names.lookup x=some .free
def Loc(a:Scope)(x:Str):Prop:=a.names.lookup x=some .local\/a.names.lookup x=some .cell
def Look(a:Env)(h:Heap)(m:K0)(x:Str)(u:Ŕ):Prop:=
 (a.kindOf x=some .local/\m x=some u)\/((a.kindOf x=some .cell\/a.kindOf x=some .free)/\ ∃c,a.cells.lookup x=some c/\h.IsCell c (some u))
structure Cx.Ok(X:Cx):Prop where
 mod:Mod X.K X.mg X.base
 kind:X.env.scope.kind=.function
 glob:X.env.globals=mainGlobals
 blt:X.env.builtins=builtinsNs
 above:X.s₀.heap.objs.size<=X.env.locals
 inj: ∀x y c,X.env.cells.lookup x=some c->X.env.cells.lookup y=some c->x=y
 has: ∀x,(X.env.kindOf x=some .cell\/X.env.kindOf x=some .free)-> ∃c,X.env.cells.lookup x=some c
 cab: ∀x c,X.fn x=true->X.env.cells.lookup x=some c->X.s₀.heap.objs.size<=c
 hd:X.calm=true->X.A.handled=none
 frames:X.A.frames=some X.stack
 stk:X.stack=X.outer\/(X.stack=X.env::X.outer/\X.env.frame=some X.env.locals)
 exf: ∀b∈X.ex,b≠X.env.locals/\ ∀x c,X.env.cells.lookup x=some c->c≠b
 bs: ∀b o,X.base.get? b=some o->X.s₀.heap.get? b=some o/\X.H₀ b=none
 bsz:X.base.objs.size<=X.s₀.heap.objs.size
 noex: ∀b o,X.base.get? b=some o->b∉X.ex
 exfs: ∀b∈X.ex,b∉X.fs
 funs:X.s₀.heap.FunFrames X.base X.outer
 frf: ∀b∈X.fs,X.H₀ b=none
structure Inv(X:Cx)(pins:L1)(σ:List (Option V))(H:Hp)(s:œ):Prop where
 ok:X.Ok
 os:s.os=X.s₀.os
 bare:AllBare s.gens
 base:Un X.fs X.ex X.H₀ H X.s₀.heap s.heap
 loc: ∃m,s.heap.Ns X.env.locals m/\ ∀(i:Nat)(x:Str)(v:V),X.N[i]? =some x->σ[i]? =some (some v)->zBQ ↑34 x-> ∃u,RelV v u/\Look X.env s.heap m x u
 cell: ∀x c,X.env.cells.lookup x=some c-> ∃v,s.heap.IsCell c v
 free:H X.env.locals=none
 freeC: ∀x c,X.env.cells.lookup x=some c->H c=none
 pin: ∀p∈X.pn++pins,s.heap.get? p.1=some p.2/\H p.1=none/\p.1≠X.env.locals/\p.1∉X.fs/\ ∀v,p.2.data≠.cell v
 hok:HOk X.prog X.w H s.heap
 len:σ.length=X.N.length
section
variable{X:Cx}{h':Heap}
def Cx.Ok.nofr(ok:X.Ok)(e:X.base.get? b=some o):b∉X.fs:=λa=>by have:=(ok.funs.mem a).1;rw[e]at this;cases this
def Inv.bs(I:↑2): ∀b o,X.base.get? b=some o->s.heap.get? b=some o/\H b=none:=λb o e=>
 ⟨I.base.keep b o (I.ok.bs b o e).1 (I.ok.bs b o e).2 (I.ok.nofr e) (I.ok.noex b o e),I.base.free b o (I.ok.bs b o e).1 (I.ok.bs b o e).2 (I.ok.noex b o e)⟩
def Inv.bk(I:↑2): ∀b o,X.base.get? b=some o->s.heap.get? b=some o:=λb o e=>(I.bs b o e).1
def Inv.mod(I:↑2):Mod X.K X.mg X.base:=I.ok.mod
def Inv.kIn(I:↑2):X.K.In s.heap:=I.ok.mod.kin.keeps I.bk
def Inv.lt(I:↑2):X.env.locals<s.heap.objs.size:=let ⟨_,hn,_⟩:=I.loc;hn.lt
def Inv.sz(I:↑2):X.s₀.heap.objs.size<=s.heap.objs.size:=ô I.ok.above (le_of_lt I.lt)
def Inv.nofs(I:↑2){a:Addr}(h:↑0<=a):a∉X.fs:=λb=>by obtain⟨_,o,c,_⟩:=I.ok.funs.mem b;exact absurd (ç (ã c) (ô I.sz h)) (ĵ _)
def Inv.cne(I:↑2): ∀x c,X.env.cells.lookup x=some c->c≠X.env.locals:=λx c e z=>by refine(I.cell x c e).d λv o h d=>?_;refine I.loc.a λm g _=>?_;refine g.g λj es i k=>k.e λb a _=>?_;rw[z,b]at h;cases h;rw[a]at d;cases d
def Inv.funs(I:↑2):s.heap.FunFrames X.base X.outer:=by
 have all: ∀(l:List Env),(∀b∈Ez l,b∈X.fs)->X.s₀.heap.FunFrames X.base l->s.heap.FunFrames X.base l:=by
  intro l
  induction l with
  |nil=>intro _ _;trivial
  |cons env r ih=>
   intro hs h;refine h.e λi g k=>?_;refine g.k λL o a hn m j=>?_;have d:=hs L (by unfold Ez;rw[ĳ,a];exact mF0);obtain⟨sl,e⟩:=I.base.slot L o m (I.ok.frf L d) d λz=>I.ok.exfs L z d;exact⟨i,(Ym L _ a hn e j),ih (λb c=>hs b (by unfold Ez;rw[ĳ,a];exact mO _ c)) k⟩
 exact all X.outer (λ_ c=>c) I.ok.funs
def Inv.stack(I:↑2):s.heap.FunFrames X.base X.stack:=by
 rcases I.ok.stk with e|⟨e,hf⟩
 .rw[e];exact I.funs
 .rw[e];refine I.loc.a λm hn _=>?_;refine .cons (by rw[I.ok.kind];decide) hf hn ?_ I.funs;exact Heap.get?_none_of_le (ô I.ok.bsz I.ok.above)
def Inv.stkSub(I:↑2): ∀b∈Ez X.stack,b∈X.env.locals::X.fs:=λb a=>by
 rcases I.ok.stk with e|⟨e,hf⟩
 .rw[e]at a;exact mO _ a
 .rw[e]at a;unfold Ez at a;rw[ĳ,hf]at a;exact a
def Inv.stkFree(I:↑2): ∀b∈Ez X.stack,H b=none:=λb a=>by
 rcases mC.mp (I.stkSub b a)with e|a
 .rw[e];exact I.free
 .obtain⟨_,o,c,_⟩:=I.ok.funs.mem a;exact I.base.free b o c (I.ok.frf b a) λz=>I.ok.exfs b z a
def Inv.step{ch:B9}(I:↑2)
  (hch:↑15)
  (keep: ∀b o,b≠X.env.locals->b∉X.fs->b∉ch->s.heap.get? b=some o->H b=none->h'.get? b=some o)
  (slot: ∀b o,b≠X.env.locals->b∈X.fs->b∉ch->s.heap.get? b=some o->H b=none-> ∃sl,h'.get? b=some {o with slots:=sl}) (free: ∀b o,b∉ch->s.heap.get? b=some o->H b=none->H' b=none)
  (there: ∀b o,b∉ch->s.heap.get? b=some o-> ∃G,h'.get? b=some G)
  (tups: ∀b xs,H b=some (.tup xs)->H' b=some (.tup xs)) (frzs: ∀b o u,H b=some (.frz o u)->H' b=some (.frz o u)) (tbls: ∀b ps,H b=some (.tbl ps)-> ∃J,H' b=some (.tbl (ps++J)))
  (ns: ∀m,s.heap.Ns X.env.locals m->h'.Ns X.env.locals m) (hok:HOk X.prog X.w H' h') (hg:AllBare g'):
  Inv X pins σ H' {s with heap:=h',gens:=g',drawn:=d',toks:=t'}:=by
 have E: ∀b o,X.s₀.heap.get? b=some o->b≠X.env.locals:=λb o e=>é (ç (ã e) I.ok.above)
 have y: ∀b o,X.s₀.heap.get? b=some o->b∉X.ex->b∉ch:=λb o e a B=>by
  rcases (hch b B).1 with z|z
  .exact a z
  .exact absurd (ç (ã e) z) (ĵ _)
 have h: ∀x c,X.env.cells.lookup x=some c-> ∀v,s.heap.IsCell c v->h'.IsCell c v:=λx c e v ⟨o,C,K⟩=>by
  have j:=λz=>(hch c z).2.2.1 x c e rfl;by_cases M:c∈X.fs
  .obtain⟨sl,q⟩:=slot c o (I.cne x c e) M j C (I.freeC x c e);exact Z3 _ q K
  .exact⟨o,keep c o (I.cne x c e) M j C (I.freeC x c e),K⟩
 refine⟨I.ok,I.os,hg,⟨λb o e n B a=>?_,λb o e n B a=>?_,λb o e n a=>?_,λb o e a=>?_,λb xs e=>tups b xs (I.base.tups b xs e),λb o xs e=>frzs b o xs (I.base.frzs b o xs e),λb ps e=>?_⟩,?_,λx c e=>?_,?_,λx c e=>?_,λp L=>?_,hok,I.len⟩
 .exact keep b o (E b o e) B (y b o e a) (I.base.keep b o e n B a) (I.base.free b o e n a)
 .obtain⟨sl,A⟩:=I.base.slot b o e n B a;obtain⟨F,D⟩:=slot b _ (E b o e) B (y b o e a) A (I.base.free b o e n a);exact⟨F,D⟩
 .obtain⟨G,A⟩:=I.base.there b o e a;exact free b G (y b o e a) A (I.base.free b o e n a)
 .obtain⟨G,A⟩:=I.base.there b o e a;exact there b G (y b o e a) A
 .obtain⟨P,A⟩:=I.base.tbls b ps e;obtain⟨Q,D⟩:=tbls b _ A;exact⟨_,by rw[D,Array.append_assoc]⟩
 .refine I.loc.a λm hn N=>?_;refine Z3 m (ns m hn) (λi x v A D O=>?_);refine(N i x v A D O).a λu r l=>?_;refine Z3 u r ?_;rcases l with l|⟨k,c,e,z⟩
  .exact .inl l
  .exact .inr ⟨k,c,e,h x c e _ z⟩
 .obtain⟨v,z⟩:=I.cell x c e;exact⟨v,h x c e v z⟩
 .refine I.loc.a λm g _=>?_;refine g.g λo _ _ T=>T.elim λC _=>?_;exact free _ o (λz=>(hch _ z).2.1 rfl) C I.free
 .refine(I.cell x c e).d λv o C K=>?_;exact free c o (λz=>(hch c z).2.2.1 x c e rfl) C (I.freeC x c e)
 .refine(I.pin p L).n λe n ne nf d=>?_;have j:=λz=>(hch p.1 z).2.2.2 p L rfl;exact⟨keep p.1 p.2 ne nf j e n,free p.1 p.2 j e n,ne,nf,d⟩
def Inv.un(I:Inv X pins σ H s)(u:Un X.fs [] H H' s.heap h')(i:HOk X.prog X.w H' h'):Inv X pins σ H' {s with heap:=h',toks:=t'}:=by refine V0 λB=>?_;refine(id I.loc).a λm m _=>?_;refine m.g λo es q A=>A.elim λj r=>?_;obtain⟨sl,p⟩:=u.any j I.free (by simp);refine B ?_;exact I.step (ch:=[]) (λ_ z=>nomatch z) (λb o _ h _ e n=>u.keep b o e n h (by simp)) (λb o _ h _ e n=>u.slot b o e n h (by simp)) (λb o _ e n=>u.free b o e n (by simp)) (λb o _ e=>u.there b o e (by simp)) u.tups u.frzs u.tbls (λv hm=>by refine hm.g λy d c g=>g.elim λa k=>?_;rw[j]at a;cases a;exact XE _ d c p k) i I.bare
def Inv.call(I:↑2)(u:Un (Ez X.stack) ch H H' s.heap h')(j:HOk X.prog X.w H' h')(A:AllBare g')
  (hch:↑15):
  Inv X pins σ H' {s with heap:=h',gens:=g',drawn:=d',toks:=t'}:=by
 refine V0 λF=>?_;refine(id I.loc).a λm m _=>?_;refine m.g λo es B E=>E.elim λq r=>?_;obtain⟨sl,k⟩:=u.any q I.free λz=>(hch _ z).2.1 rfl;refine F ?_;exact I.step hch (λb o k y a e n=>u.keep b o e n (λz=>(mC.mp (I.stkSub b z)).elim k y) a) (λb o _ _ a e n=>u.any e n a) (λb o a e n=>u.free b o e n a) (λb o a e=>u.there b o e a) u.tups u.frzs u.tbls (λC hm=>by refine hm.g λD i h g=>g.elim λd v=>?_;rw[q]at d;cases d;exact XE _ i h k v) j A
def Inv.turned(I:↑2)(k: ∀b o,b≠it->s.heap.get? b=some o->h'.get? b=some o)(hn:H it=none)(h:it≠X.env.locals)
  (h1:it∈X.ex\/X.s₀.heap.objs.size<=it) (h2: ∀x c,X.env.cells.lookup x=some c->c≠it) (h3: ∀p∈X.pn++pins,p.1≠it):Inv X pins σ H {s with heap:=h',toks:=t'}:=by
 have d: ∀b u,H b=some u->b≠it:=λb u e z=>by rw[z,hn]at e;cases e
 refine I.step (ch:=[it]) (λb j=>?_) (λb o _ _ a e _=>k b o (λz=>a (by simp[z])) e) (λb o _ _ a e _=>⟨_,k b o (λz=>a (by simp[z])) e⟩) (λ_ _ _ _ n=>n)
  (λb o a e=>⟨o,k b o (λz=>a (by simp[z])) e⟩) (λ_ _ e=>e) (λ_ _ _ e=>e) (λb ps e=>⟨#[],by rw[e];simp⟩) (λm hm=>?_) (λb u e=>?_) I.bare
 .have e:=by simpa using j
  cases e;exact⟨h1,h,h2,h3⟩
 .refine hm.g λo es i g=>g.elim λw r=>?_;exact XE o es i (k _ o (Ne.symm h) w) r
 .refine(I.hok b u e).stay (λc v a q=>k c v ?_ q) (λ_ q=>q) λ_ _ q=>q;rcases a with z|z
  .rw[z];exact d b u e
  .exact d c _ z
def Inv.tok(I:↑2)(t):Inv X pins σ H {s with toks:=t}:=I.un Un.refl I.hok
def Inv.kept(I:↑2)(k: ∀b u,s.heap.get? b=some u->h'.get? b=some u):Inv X pins σ H {s with heap:=h',toks:=t'}:=I.un (Un.kept k) (I.hok.kept k)
def Inv.laid{a:Addr}(I:↑2)(k: ∀b u,s.heap.get? b=some u->h'.get? b=some u)(c:↑0<=a)(new:ObjOk X.prog X.w (xV H a o) h' a o):
  Inv X pins σ (xV H a o) {s with heap:=h',toks:=t'}:=I.un (Un.laid k c (I.hok.fresh c)) (I.hok.laid k c new)
def Inv.write(I:↑2)(d:Uz (H x))(c:e=x\/H e=some (.own x))(k: ∀b u,b≠e->s.heap.get? b=some u->h'.get? b=some u)(a: ∃u,h'.get? e=some u)
  (new:ObjOk X.prog X.w (xV H x o) h' x o):Inv X pins σ (xV H x o) {s with heap:=h',toks:=t'}:=I.un (Un.write d c k a) (I.hok.write d c k a new)
def Inv.pins_of(I:↑2)(h: ∀p∈pins',s.heap.get? p.1=some p.2/\H p.1=none/\p.1≠X.env.locals/\p.1∉X.fs/\ ∀v,p.2.data≠.cell v):Inv X pins' σ H s:=
 ⟨I.ok,I.os,I.bare,I.base,I.loc,I.cell,I.free,I.freeC,λp a=>(ê.mp a).elim (λz=>I.pin p (ă _ z)) (h p),I.hok,I.len⟩
def RQ{N:C0}(e:N.Nodup){i:Nat}(a:N[i]? =some x)(b:N[j]? =some x):i=j:=by obtain⟨h,d⟩:=gS.mp a;obtain⟨k,c⟩:=gS.mp b;exact(getElem_inj e).mp (d.trans c.symm)
abbrev Q2(X:Cx)(x:Str):Prop:=X.fn x=true\/X.env.scope.names.lookup x=some .local
def LI(I:↑2)(hN:X.N.Nodup)(hi:X.N[i]? =some x)(F:Loc ↑34 x)(r:RelV v u)
  (h: ∀s',Inv X pins (σ.set i (some v)) H s'->(∃a,Heap.SameBut a s.heap s'.heap/\(a=X.env.locals\/X.env.cells.lookup x=some a))->Q () s') (hf:Q2 X x:=by first |exact .inl rfl|exact .inr rfl|assumption):wpAny M A (storeName X.env x u) Q E s:=by
 refine(id I.loc).a λm hn hl=>?_;have K:i<σ.length:=by rw[I.len];exact(gS.mp hi).1
 have cne:=I.cne
 have B: ∀{a:Addr}{h':Heap},(∃o,s.heap.get? a=some o/\H a=none)->Heap.SameBut a s.heap h'->HOk X.prog X.w H h':=λ{a h'} ha hs b ob e=>by
  obtain⟨_,_,G⟩:=ha;refine(I.hok b ob e).stay (λc Y D q=>(hs.2 c ?_).trans q) (λ_ q=>q) λ_ _ q=>q;rintro rfl;rcases D with rfl|D
  .rw[G]at e;cases e
  .rw[G]at D;cases D
 rcases F with hk|hk
 .refine wpAny_storeName_local hk hn (λh' ab hs=>?_) (by rw[I.ok.kind];rfl);refine(id hn).g λoL _ _ g=>g.elim λaa _=>?_;refine h _ ⟨I.ok,I.os,I.bare,⟨λb o e n L F=>?_,λb o e n L F=>?_,I.base.free,λb o e F=>?_,I.base.tups,I.base.frzs,I.base.tbls⟩,(Z3 _ ab (λj y v' C J e3=>?_)),λy c e=>?_,I.free,I.freeC,λp hp=>?_,B (Z3 oL aa I.free) hs,by simpa using I.len⟩ ⟨_,hs,.inl rfl⟩
  .exact(hs.2 b (é (ç (ã e) I.ok.above))).trans (I.base.keep b o e n L F)
  .obtain⟨sl,C⟩:=I.base.slot b o e n L F;exact⟨sl,(hs.2 b (é (ç (ã e) I.ok.above))).trans C⟩
  .obtain⟨o',C⟩:=I.base.there b o e F;exact⟨o',(hs.2 b (é (ç (ã e) I.ok.above))).trans C⟩
  .by_cases O:j=i
   .subst O;rw[hi]at C;cases C;rw[ğ K]at J;cases J;exact Z3 u r (.inl ⟨hk,by simp⟩)
   .rw[Ġ (Ne.symm O)]at J;refine(hl j y v' C J e3).a λu' r' q=>?_;refine⟨u',r',?_⟩;rcases q with⟨k,e⟩|⟨k,c,e,z⟩
    .refine .inl ⟨k,?_⟩;have:y≠x:=λe=>O (RQ hN C (e▸hi));simp[this,e]
    .exact .inr ⟨k,c,e,z.sameBut hs (cne y c e)⟩
  .obtain⟨Y,z⟩:=I.cell y c e;exact⟨Y,z.sameBut hs (cne y c e)⟩
  .refine(I.pin p hp).n λe n ne nf d=>?_;exact⟨(hs.2 p.1 ne).trans e,n,ne,nf,d⟩
 .have P:X.fn x=true:=by
   rcases hf with z|z
   .exact z
   .rw[z]at hk;cases hk
  obtain⟨c,D⟩:=I.ok.has x (.inl hk);obtain⟨Y,z⟩:=I.cell x c D;refine wpAny_storeName_cell I.ok.kind hk D z (λh' W hs=>?_);refine(id z).a λoc U T=>?_;refine h {s with heap:=h'} ⟨I.ok,I.os,I.bare,⟨λb o e n L F=>?_,λb o e n L F=>?_,I.base.free,λb o e F=>?_,I.base.tups,I.base.frzs,I.base.tbls⟩,(Z3 m (hn.sameBut hs (Ne.symm (cne x c D))) (λj y v' C J e3=>?_)),λy Z e=>?_,I.free,I.freeC,λp hp=>?_,B (Z3 oc U (I.freeC x c D)) hs,by simpa using I.len⟩ ⟨c,hs,.inr D⟩
  .exact(hs.2 b (é (ç (ã e) (I.ok.cab x c P D)))).trans (I.base.keep b o e n L F)
  .obtain⟨sl,C⟩:=I.base.slot b o e n L F;exact⟨sl,(hs.2 b (é (ç (ã e) (I.ok.cab x c P D)))).trans C⟩
  .obtain⟨o',C⟩:=I.base.there b o e F;exact⟨o',(hs.2 b (é (ç (ã e) (I.ok.cab x c P D)))).trans C⟩
  .by_cases O:j=i
   .subst O;rw[hi]at C;cases C;rw[ğ K]at J;cases J;exact Z3 u r (.inr ⟨.inl hk,c,D,W⟩)
   .rw[Ġ (Ne.symm O)]at J;refine(hl j y v' C J e3).a λu' r' q=>?_;refine⟨u',r',?_⟩;rcases q with q|⟨k,Z,e,z'⟩
    .exact .inl q
    .refine .inr ⟨k,Z,e,z'.sameBut hs ?_⟩;rintro rfl;exact O (RQ hN C (I.ok.inj _ _ _ e D▸hi))
  .by_cases S:Z=c
   .subst S;exact⟨_,W⟩
   .obtain⟨w2,z2⟩:=I.cell y Z e;exact⟨w2,z2.sameBut hs S⟩
  .refine(I.pin p hp).n λe n ne nf d=>?_;refine⟨(hs.2 p.1 ?_).trans e,n,ne,nf,d⟩;intro q;rw[q,U]at e;exact d Y (by rw[<-(ä e)];exact T)
def RR(I:↑2)(c:X.N.Nodup)(hi:X.N[i]? =some x)(a:Loc ↑34 x)(r:RelV v u)
  (h: ∀j,Inv X pins (σ.set i (some v)) H j->Q () j) (hf:Q2 X x:=by first |exact .inl rfl|exact .inr rfl|assumption):wpAny M A (storeName X.env x u) Q E s:=
 LI I c hi a r (λj b _=>h j b) hf
def Inv.call'(I:↑2)(e:s'.os=s.os)(u:Un (Ez X.stack) ch H H' s.heap s'.heap)(a:HOk X.prog X.w H' s'.heap)(d:AllBare s'.gens)
  (hch:↑15):Inv X pins σ H' s':=by
 obtain⟨h',j,k,h,i⟩:=s';subst e;exact I.call u a d hch
end
abbrev XK:=Value->Option Addr->Hp->Prop
abbrev St:=List (Option V)
abbrev VK:=V->Hp->Prop
abbrev TE:=St->Hp->VK->Prop
abbrev TT:=St->Hp->(Bool->Hp->Prop)->Prop
abbrev TA:=St->Hp->(List V->Hp->Prop)->Prop
structure Ends where
 nx:St->Hp->Prop
 rt:VK
 bk:St->Hp->Prop:=λ_ _=>False
 ct:St->Hp->Prop:=λ_ _=>False
abbrev TS:=Ends->St->Hp->Prop
def EP(X:Cx)(pins:L1)(σ:St)(Q:VK)(u:Ŕ)(a:œ):Prop:= ∃v H',Inv X pins σ H' a/\RelV v u/\Q v H'
def TP(X:Cx)(pins:L1)(σ:St)(Q:Bool->Hp->Prop)(b:Bool)(a:œ):Prop:= ∃H',Inv X pins σ H' a/\Q b H'
def AP(X:Cx)(pins:L1)(σ:St)(Q:List V->Hp->Prop)(us:A0)(a:œ):Prop:= ∃vs H',Inv X pins σ H' a/\Vals vs us/\Q vs H'
def SP(X:Cx)(pins:L1)(D:Ends)(f:Flow)(b:œ):Prop:=
 match f with
 |.next=> ∃a H',Inv X pins a H' b/\D.nx a H'
 |.brk=> ∃a H',Inv X pins a H' b/\D.bk a H'
 |.cont=> ∃a H',Inv X pins a H' b/\D.ct a H'
 |.ret u=> ∃v a H',Inv X pins a H' b/\RelV v u/\D.rt v H'
def PE(X:Cx)(e:Expr)(t:TE):Prop:=
 ∀(pins:L1)(s:œ)(σ:St)(H:Hp)(Q:VK),Inv X pins σ H s->t σ H Q->wpAny ↑4 X.A (eval e X.env) (EP X pins σ Q) X.xe s
def PT(X:Cx)(e:Expr)(t:TT):Prop:=
 ∀(pins:L1)(s:œ)(σ:St)(H:Hp)(Q:Bool->Hp->Prop),Inv X pins σ H s->t σ H Q->wpAny ↑4 X.A (isTrue e X.env (eval e X.env)) (TP X pins σ Q) X.xe s
def PW(X:Cx)(e:Expr)(t:TT):Prop:=
 ∀(a:Sem Ŕ)(pins:L1)(s:œ)(σ:St)(H:Hp)(Q:Bool->Hp->Prop),Inv X pins σ H s->t σ H Q->wpAny ↑4 X.A (isTrue e X.env a) (TP X pins σ Q) X.xe s
def PW.pt(h:PW X e t):PT X e t:=h _
def PA(X:Cx)(es:Q0)(t:TA):Prop:=
 ∀(pos:Pos)(pins:L1)(s:œ)(σ:St)(H:Hp)(Q:List V->Hp->Prop),Inv X pins σ H s->t σ H Q->wpAny ↑4 X.A (spliced (backTo pos (starEach es X.env))) (AP X pins σ Q) X.xe s
def PS(X:Cx)(st:Stmt)(t:TS):Prop:=
 ∀(pins:L1)(s:œ)(σ:St)(H:Hp)(D:Ends),Inv X pins σ H s->t D σ H->wpAny ↑4 X.A (exec st X.env) (SP X pins D) X.xe s
def PSs(X:Cx)(st:List Stmt)(t:TS):Prop:=
 ∀(pins:L1)(s:œ)(σ:St)(H:Hp)(D:Ends),Inv X pins σ H s->t D σ H->wpAny ↑4 X.A (execs st X.env) (SP X pins D) X.xe s
def wG(h:wpAny M A t Q E s)(b: ∀a s,Q a s->Q' a s):wpAny M A t Q' E s:=û h b λ_ _ x=>x
section
variable{X:Cx}
def P4(i:Nat):TE:=λσ H Q=> ∃v,σ[i]? =some (some v)/\Q v H
def tC(v:V):TE:=λ_ H Q=>Q v H
def Va{pos:Pos}(j:X.N[i]? =some x)(hv:zBQ ↑34 x)(b:↑42=false:=by decide)(a:(x==("__classdict__"))=false:=by decide):PE X (.Name x pos) (P4 i):=by
 rw[22];rw[20];refine h.a λv e h=>?_;refine I.loc.a λm hn d=>?_;refine(d i x v j e hv).a λu r l=>?_;have fin:EP X pins σ Q u s:=(Z0 v H I r h)
 refine g ?_;rcases l with⟨hk,hm⟩|⟨hk,c,hc,hcell⟩
 .exact wpAny_Name (wpAny_loadName_local I.ok.kind hk hn hm fin) b
 .rcases hk with hk|hk
  .exact wpAny_Name (wpAny_loadName_cell I.ok.kind hk hc hcell fin) b
  .exact wpAny_Name (wpAny_loadName_free I.ok.kind hk hc hcell fin a) b
def Fj:PE X (.Constant (.int i) j pos) (tC (.int i)):=λ_ _ _ H _ I h=>wpAny_Constant_int (Z0 (.int i) H (I.tok _) ⟨_,rfl⟩ h)
def P5:PE X (.Constant (.bool b) j pos) (tC (.bl b)):=λ_ _ _ H _ I h=>Constant_bool (Z0 (.bl b) H I rfl h)
def Gl(X:Cx)(x:Str):Prop:=X.env.kindOf x=some .globalImplicit
def NT(I:↑2)(a:Gl X x)(hm:X.mg x=some u)(h:Q u s)
  (hd:↑42=false:=by decide):wpAny ↑4 X.A (eval (.Name x pos) X.env) Q E s:=
 Calls.Name_function_global I.ok.kind a (Calls.loadGlobal_global (by rw[I.ok.glob];exact I.mod.glob.keeps I.bk) hm h) hd
def pY{E:VP}{pos:Pos}(I:↑2)(a:Gl X x)(hm:X.mg x=none)(hv:bootBuiltins x=some u)(h:Q u s)
  (hn:x≠"__name__":=by decide) (hd:↑42=false:=by decide):wpAny ↑4 X.A (eval (.Name x pos) X.env) Q E s:=by
 refine I.mod.blt.a λd b c=>?_;exact Calls.Name_function_global I.ok.kind a (Calls.loadGlobal_builtin (by rw[I.ok.glob];exact I.mod.glob.keeps I.bk) hm (by rw[I.ok.blt];exact b.keeps I.bk) ((c x hn).trans hv) h) hd
def tB(t:TE):TT:=λσ H Q=>t σ H λx a=> ∃c,x=.bl c/\Q c a
variable{rest:Q0}
def tAnd(t u:TT):TT:=λσ H Q=>t σ H λc a=>if c=true then u σ a Q else Q false a
def tOr(t u:TT):TT:=λσ H Q=>t σ H λc a=>if c=true then Q true a else u σ a Q
def tNot(t:TT):TT:=λσ H Q=>t σ H λc a=>Q (!c) a
def Mk(b:PT X a tA):PW X (.BoolOp .And [a] pos) tA:=by
 intro d pins s σ H Q I h;refine isTrue_and (wG (b pins s σ H Q I h) λc i e=>?_)
 cases c with
 |true=>exact isTrue_and_nil e
 |false=>exact e
def Vd(b:PT X a tA):PW X (.BoolOp .Or [a] pos) tA:=by
 intro d pins s σ H Q I h;refine isTrue_or (wG (b pins s σ H Q I h) λc i e=>?_)
 cases c with
 |false=>exact isTrue_or_nil e
 |true=>exact e
def Ve(i:PT X a tA)(j:PW X (.BoolOp .And (b::rest) pos) tB'):PW X (.BoolOp .And (a::b::rest) pos) (tAnd tA tB'):=by
 intro k pins s σ H Q I h;refine isTrue_and (wG (i pins s σ H _ I h) λc m ⟨d,I1,e⟩=>?_)
 cases c with
 |true=>exact j k pins m σ d Q I1 e
 |false=>exact⟨d,I1,e⟩
def P8(i:PT X a tA)(j:PW X (.BoolOp .Or (b::rest) pos) tB'):PW X (.BoolOp .Or (a::b::rest) pos) (tOr tA tB'):=by
 intro k pins s σ H Q I h;refine isTrue_or (wG (i pins s σ H _ I h) λc m ⟨d,I1,e⟩=>?_)
 cases c with
 |true=>exact⟨d,I1,e⟩
 |false=>exact j k pins m σ d Q I1 e
def P9(d b:TE):TE:=λσ H Q=>d σ H λx a=> ∃c,x=.bl c/\if c=true then b σ a Q else Q (.bl false) a
def Q3(b:TE):TE:=λσ H Q=>b σ H λx a=> ∃c,x=.bl c/\Q (.bl (!c)) a
def Vh(i:PE X a ta)(j:PE X (.BoolOp .And (b::rest) pos) tb):PE X (.BoolOp .And (a::b::rest) pos) (P9 ta tb):=by
 rw[22];refine BoolOp_and (wG (i pins s σ H _ I h) λv m ⟨x,e,I1,k,d⟩=>?_);obtain⟨c,rfl,d⟩:=d;subst k;refine ć ?_
 cases c with
 |true=>exact j pins m σ e Q I1 d
 |false=>exact Z0 (.bl false) e I1 rfl d
def tIf(t:TT)(d b:TE):TE:=λσ H Q=>t σ H λc a=>if c=true then d σ a Q else b σ a Q
def Fk(n:PT X c tA)(k:PE X a ta)(m:PE X b tb):PE X (.IfExp c a b pos) (tIf tA ta tb):=by
 rw[22];refine wpAny_IfExp (wG (n pins s σ H _ I h) λd j ⟨e,I1,i⟩=>?_)
 cases d with
 |true=>exact k pins j σ e Q I1 i
 |false=>exact m pins j σ e Q I1 i
end
def SqL(K:U0)(H:Hp)(a:Addr)(xs:List V):Prop:=
 Rd H a (.lst xs)\/
  ∃(o:Obj)(b:B0)(n:Nat),K.lookup a=some o/\o.cls=.type "list"/\o.dict=none/\o.data=.seq b n/\b.size<=sizeLine/\Vals xs b.toList
def SqT(K:U0)(H:Hp)(a:Addr)(xs:List V):Prop:=
 Rd H a (.tup xs)\/
  ∃(o:Obj)(b:B0)(n:Nat),K.lookup a=some o/\o.cls=.type "tuple"/\o.data=.seq b n/\b.size<=sizeLine/\Vals xs b.toList
noncomputable def absV:Ŕ->Option V
 |.none=>some .non
 |.bool b=>some (.bl b)
 |.int i _=>some (.int i)
 |.str x _=>some (.str x)
 |.bytes b _=>some (.byt b)
 |.float b _=>some (.flt b)
 |.ref a=>some (.ref a)
 |.type n=>some (.ty n)
 |_=>none
theorem RelV.abs(r:RelV x u):absV u=some x:=by
 cases x with
 |non=>subst r;rfl
 |bl _=>subst r;rfl
 |int _=>obtain⟨t,rfl⟩:=r;rfl
 |str _=>obtain⟨t,rfl⟩:=r;rfl
 |byt _=>obtain⟨t,rfl⟩:=r;rfl
 |flt _=>obtain⟨t,rfl⟩:=r;rfl
 |ref _=>subst r;rfl
 |ty _=>subst r;rfl
def RelV.inj(r:RelV x u)(q:RelV y u):x=y:=ä (r.abs.symm.trans q.abs)
theorem Vals.inj: ∀{xs ys}{us},Vals xs us->Vals ys us->xs=ys
 |_,_,_,.nil,.nil=>rfl
 |_,_,_,.cons r t,.cons r' t'=>by rw[r.inj r',Vals.inj t t']
section
def SqL.of{K:U0}(h:H a=some (.lst xs)):SqL K H a xs:=.inl (.inl h)
def SqT.of{K:U0}(h:H a=some (.tup xs)):SqT K H a xs:=.inl (.inl h)
theorem Inv.list(I:↑2)(h:SqL X.K H a xs): ∃j:List Ŕ,Vals xs j/\PlainL s.heap a j.toArray/\↑8<=sizeLine:=by
 rcases h with h|⟨o,j,n,hk,hc,hd,hs,hz,r⟩
 .obtain⟨z,j,n,r,e⟩:=h.ok I.hok;exact ZB j r (Ym _ n e rfl rfl rfl) z
 .refine(ZB _ r (Ym o n (I.kIn a o hk) hc hd (by simpa using hs)) ?_);have e:=r.length;simp only[ï]at e
  lia
theorem Inv.tuple(I:↑2)(h:SqT X.K H a xs): ∃j:List Ŕ,Vals xs j/\IsTup s.heap a j.toArray/\↑8<=sizeLine:=by
 rcases h with h|⟨o,j,n,hk,hc,hs,hz,r⟩
 .obtain⟨z,j,r,p⟩:=h.ok I.hok;exact ZB j r p z
 .refine(ZB _ r ⟨o,I.kIn a o hk,hc,n,by simpa using hs⟩ ?_);have e:=r.length;simp only[ï]at e
  lia
def Inv.list_inj(I:↑2)(h:SqL X.K H a xs)(h':SqL X.K H a ys):xs=ys:=by
 refine(I.list h).b λk r c _=>?_;refine c.k λo n e _ _ d=>?_;refine(I.list h').b λc j g _=>?_;refine g.k λm p b _ _ i=>?_;rw[e]at b;cases b;rw[d]at i;injection i with d1 _
 have:=by simpa using congrArg Array.toList d1
 subst this;exact r.inj j
def Inv.tuple_inj(I:↑2)(h:SqT X.K H a xs)(h':SqT X.K H a ys):xs=ys:=by
 refine(I.tuple h).b λk r c _=>?_;obtain ⟨o,e,_,n,d⟩:=c;refine(I.tuple h').b λc j g _=>?_;obtain ⟨m,b,_,p,i⟩:=g;rw[e]at b;cases b;rw[d]at i;injection i with d1 _
 have:=by simpa using congrArg Array.toList d1
 subst this;exact r.inj j
end
abbrev Cx.wish(X:Cx)(E:VP):Cx:={X with xe:=E}
abbrev Cx.nox(X:Cx):Cx:=X.wish λ_ _=>False
def Cx.Ok.wish{X:Cx}(ok:X.Ok)(E):(X.wish E).Ok:=
 ⟨ok.mod,ok.kind,ok.glob,ok.blt,ok.above,ok.inj,ok.has,ok.cab,ok.hd,ok.frames,ok.stk,ok.exf,ok.bs,ok.bsz,ok.noex,ok.exfs,ok.funs,ok.frf⟩
def Cx.Ok.unwish{X:Cx}(ok:(X.wish E).Ok):X.Ok:=
 ⟨ok.mod,ok.kind,ok.glob,ok.blt,ok.above,ok.inj,ok.has,ok.cab,ok.hd,ok.frames,ok.stk,ok.exf,ok.bs,ok.bsz,ok.noex,ok.exfs,ok.funs,ok.frf⟩
section
variable{pins:L1}{σ:St}{H:Hp}{s:œ}
def Inv.wish(I:↑2)(E):Inv (X.wish E) pins σ H s:=⟨I.ok.wish E,I.os,I.bare,I.base,I.loc,I.cell,I.free,I.freeC,I.pin,I.hok,I.len⟩
def Inv.unwish(I:Inv (X.wish E) pins σ H s):Inv X pins σ H s:=⟨I.ok.unwish,I.os,I.bare,I.base,I.loc,I.cell,I.free,I.freeC,I.pin,I.hok,I.len⟩
def SP.unwish(h:SP (X.wish E) pins D f s'):SP X pins D f s':=by
 cases f with
 |next=>refine h.d λa H' I q=>?_;exact YS a H' I.unwish q
 |brk=>refine h.d λa H' I q=>?_;exact YS a H' I.unwish q
 |cont=>refine h.d λa H' I q=>?_;exact YS a H' I.unwish q
 |ret u=>refine h.g λv a H' b=>b.e λI r q=>?_;exact YR v a H' ⟨I.unwish,r,q⟩
def PSs.nox{st:List Stmt}(h:PSs X.nox st t):PSs X st t:=λpins s σ H D I hw=>
 û (h pins s σ H D (I.wish _) hw) (λ_ _ q=>q.unwish) λ_ _ z=>False.elim z
end
section
variable{st:Stmt}{rest:List Stmt}
def Q4:TS:=λD σ H=>D.nx σ H
def tSeq(t u:TS):TS:=λD σ H=>t {D with nx:=u D} σ H
def Mm(a:PS X st t):PSs X [st] t:=by
 intro pins s σ H D I h;refine wpAny_execs_cons (wG (a pins s σ H D I h) λf b q=>?_)
 cases f with
 |next=>exact wpAny_execs_nil q
 |ret v=>exact q
 |brk=>exact q
 |cont=>exact q
def Inv.quiet(I:↑2):interactive X.env=false:=by simp[interactive,I.ok.kind]
def Q6(a:TE):TS:=λD σ H=>a σ H λ_ b=>D.nx σ b
def tRet(a:TE):TS:=λD σ H=>a σ H D.rt
def tIfS(c:TT)(t u:TS):TS:=λD σ H=>c σ H λb a=>if b=true then t D σ a else u D σ a
def Q7(n:PT X c tc)(k:PSs X a t)(m:PSs X b u):PS X (.If c a b pos) (tIfS tc t u):=by
 intro pins s σ H D I h;refine wpAny_If (wG (n pins s σ H _ I h) λd j ⟨e,I1,i⟩=>?_)
 cases d with
 |true=>exact k pins j σ e D I1 i
 |false=>exact m pins j σ e D I1 i
def Vk:TS:=λ_ _ _=>False
def Fn:PS X st Vk:=λ_ _ _ _ _ _ h=>h.elim
end
abbrev TG:=V->St->Hp->(St->Hp->Prop)->Prop
abbrev Vm:=List V->St->Hp->(St->Hp->Prop)->Prop
def PG(X:Cx)(a:Expr)(t:TG):Prop:=
 ∀(pins:L1)(s:œ)(σ:St)(H:Hp)(v:V)(u:Ŕ)(Q:St->Hp->Prop),Inv X pins σ H s->RelV v u->t v σ H Q->
  wpAny ↑4 X.A (assign a X.env u) (λ_ c=> ∃b H',Inv X pins b H' c/\Q b H') X.xe s
def M4(X:Cx)(ts:Q0)(t:Vm):Prop:=
 ∀(pins:L1)(s:œ)(σ:St)(H:Hp)(vs:List V)(us:A0)(Q:St->Hp->Prop),Inv X pins σ H s->Vals vs us->t vs σ H Q->
  wpAny ↑4 X.A (assignInOrder ((assignEach ts X.env).map (·.2)) us) (λ_ b=> ∃a H',Inv X pins a H' b/\Q a H') X.xe s
abbrev TSet:=V->V->V->Hp->(Hp->Prop)->Prop
def Mo(X:Cx)(t:TSet):Prop:=
 ∀(pins:L1)(s:œ)(σ:St)(H:Hp)(o i v:V)(a b u:Ŕ)(Q:Hp->Prop),Inv X pins σ H s->RelV o a->RelV i b->RelV v u->t o i v H Q->
  wpAny ↑4 X.A (setItem a b u) (λ_ c=> ∃H',Inv X pins σ H' c/\Q H') X.xe s
section
variable{pos:Pos}
def Fo(i:Nat):TG:=λv σ H Q=>Q (σ.set i (some v)) H
def YT(d:X.N.Nodup)(hi:X.N[i]? =some x)(a:Loc ↑34 x)(c:Q2 X x:=by first |exact .inl rfl|exact .inr rfl|assumption):PG X (.Name x pos) (Fo i):=by intro pins s σ H v u Q I r h;exact wpAny_assign_Name (RR I d hi a r (λe b=>(YS _ H b h)) c)
def gNil:Vm:=λvs σ H Q=>vs=[]/\Q σ H
def Q8(t:TG)(u:Vm):Vm:=λvs σ H Q=> ∃v r,vs=v::r/\t v σ H λa H'=>u r a H' Q
def YU:M4 X [] gNil:=by intro pins s σ H vs a Q I r h;refine V0 λb=>?_;obtain⟨e,h⟩:=h;subst e;refine b ?_;exact assignInOrder_nil (YS (σ) H I h)
def RS(b:PG X e t)(c:M4 X es u)
  (hs:(assignEach (e::es) X.env).map (·.2)=assign e X.env::(assignEach es X.env).map (·.2):=by rfl):M4 X (e::es) (Q8 t u):=by
 intro pins s σ H vs m Q I r h;obtain⟨v,n,d,h⟩:=h;subst d
 cases r with
 |cons r rr=>
  rw[hs];refine assignInOrder_cons (wG (b pins s σ H _ _ _ I r h) λ_ k ⟨a,i,I1,j⟩=>?_);exact c pins k a i _ _ Q I1 rr j
def gTup(K:U0)(n:Nat)(t:Vm):TG:=λv σ H Q=> ∃a xs,v=.ref a/\SqT K H a xs/\↑8=n/\t xs σ H Q
def Fp{k:Nat}(p:X.calm=true)(h:M4 X es t)
  (hn:(assignEach es X.env).length=n:=by rfl) (hst:(assignEach es X.env).findIdx? (·.1)=none:=by rfl):PG X (.Tuple es k pos) (gTup X.K n t):=by
 intro pins s σ H v u Q I r hw;rw[20];obtain⟨a,xs,q,m,d,hw⟩:=hw;subst q;subst r;refine(I.tuple m).b λw c j y=>?_;refine g ?_;refine assign_Tuple_tuple (I.ok.hd p) j (by simp[hn, <-d,c.length]) hst λh' i=>?_;exact h pins _ σ H xs _ Q (I.kept λb o e=>i b o (é (ã e)) e) (by simpa using c) hw
def gSub(b c:TE)(t:TSet):TG:=λv σ H Q=>b σ H λo a=>c σ a λi e=>t o i v e λd=>Q σ d
def VZ(B:PE X o to)(hi:PE X i ti)(hs:Mo X t)
  (ha: ∀v,assign (.Subscript o i pos) X.env v=(do
   let j <-holding [v] (eval o X.env);let m <-holding [v,j] (eval i X.env)
   standAt pos
   holding [v,j,m] (setItem j m v)
   release [v,j,m] []):=by intro _;rfl):PG X (.Subscript o i pos) (gSub to ti t):=by
 intro pins s σ H v u Q I r h;refine wB (ù (wG (B pins s σ H _ I h) λj A ⟨x,k,I1,a,d⟩=>?_));refine wB (ù (wG (hi pins A σ k _ I1 d) λm n ⟨y,z,b,e,q⟩=>?_));refine wB (wpAny_standAt (wB (ù (wG (hs pins n σ z x y v j m u _ b a e r q) λ_ C ⟨w,p,c⟩=>?_))));exact wpAny_release (YS (σ) w p c)
def Vn(a:TE)(g:TG):TS:=λD σ H=>a σ H λx b=>g x σ b D.nx
def Vo(c:PE X e te)(i:PG X tg g)(hs:swapsWithSole [tg] e pos.line X.env=pure false:=by rfl)(hw:swappedStores [tg] e X.env=pure none:=by rfl)
  (h1:(assignEach [tg] X.env).map (·.2)=[assign tg X.env]:=by rfl):PS X (.Assign [tg] e pos) (Vn te g):=by
 intro pins s σ H D I h;refine wpAny_Assign_stores (wG (c pins s σ H _ I h) λv b ⟨x,d,I1,a,j⟩=>?_) hs hw;rw[h1];exact wG (i pins b σ d x v _ I1 a j) λ_ k q=>q
def Vq(j:X.N.Nodup)(hi:X.N[i]? =some x)(a:Loc ↑34 x)(k:PE X e te)(hs:swapsWith e (some (.Name x pos')) pos.line X.env=pure false:=by rfl)(d:Q2 X x:=by first |exact .inl rfl|exact .inr rfl|assumption):
  PS X (.Assign [.Name x pos'] e pos) (Vn te (Fo i)):=by
 intro pins s σ H D I h;refine wpAny_Assign_Name (wG (k pins s σ H _ I h) λv o ⟨y,m,I1,b,n⟩=>?_) hs;exact RR I1 j hi a b (λp c=>(YS _ m c n)) d
end
structure It where
 go:Nat->Hp->Prop
 yld:Nat->Hp->V->Hp->Prop
 stop:Nat->Hp->Prop
def pZ(X:Cx)(pins:L1)(H:Hp)(b:Addr):Prop:=
 H b=none/\b≠X.env.locals/\b∉X.fs/\(b∈X.ex\/X.s₀.heap.objs.size<=b)/\(∀x c,X.env.cells.lookup x=some c->c≠b)/\ ∀p∈X.pn++pins,p.1≠b
def Inv.fpOk{b:Addr}(I:↑2)(a:↑0<=b)(hn:H' b=none):pZ X pins H' b:=by
 refine⟨hn,ú (ç I.lt a),I.nofs a,.inr (ô I.sz a),λx c e z=>?_,λp d z=>?_⟩
 .obtain⟨v,q⟩:=I.cell x c e;exact absurd (ç q.lt (by rw[z];exact a)) (ĵ _)
 .exact absurd (ç (ã (I.pin p d).1) (by rw[z];exact a)) (ĵ _)
abbrev Vr(X:Cx):Prop:=X.calm=true
structure TurnC(C:Cx->Prop)(P:ŕ)(w:World)(K:U0)(tg:Expr)(J:It)(fp:B9)(it:Addr)(tn:Nat->Heap->Prop):Prop where
 mem:it∈fp
 obj: ∀i h,tn i h-> ∀b∈fp, ∃o,h.get? b=some o/\ ∀v,o.data≠.cell v
 keep: ∀i h h',tn i h->(∀b∈fp, ∀o,h.get? b=some o->h'.get? b=some o)->tn i h'
 item: ∀(X:Cx),X.prog=P->X.w=w->X.K=K->C X-> ∀(i:Nat)(pins:L1)(s:œ)(σ:St)(H:Hp)(E:VP),Inv X pins σ H s->(∀b∈fp,pZ X pins H b)->tn i s.heap->J.go i H->
  wpAny (model P w) X.A (pyNext (.ref it)) (λr s1=> ∃u,r=some u/\
   wpAny (model P w) X.A (letOwnedTupleGo tg (.ref it) u) (λ_ s2=> ∃x H',Inv X pins σ H' s2/\RelV x u/\J.yld i H x H'/\tn (i+1) s2.heap/\ ∀b∈fp,H' b=none) E s1) E s
 done: ∀(X:Cx),X.prog=P->X.w=w->X.K=K->C X-> ∀(i:Nat)(pins:L1)(s:œ)(σ:St)(H:Hp)(E:VP),Inv X pins σ H s->(∀b∈fp,pZ X pins H b)->tn i s.heap->J.stop i H->
  wpAny (model P w) X.A (pyNext (.ref it)) (λr s1=>r=none/\Inv X pins σ H s1) E s
 self: ∀(A:Around)(i:Nat)(s:œ)(Q:VP)(E:VP),tn i s.heap->Q (.ref it) s->wpAny (model P w) A (pyIter (.ref it)) Q E s
abbrev Turn:=TurnC Vr
abbrev TI:=St->Hp->(It->Hp->Prop)->Prop
def Q9(C:Cx->Prop)(X:Cx)(pins:L1)(σ:St)(tg:Expr)(R:It->Hp->Prop)(a:Ŕ)(d:œ):Prop:=
 ∃(c:Addr)(fp:B9)(e:Nat->Heap->Prop)(J:It)(H':Hp),a=.ref c/\Inv X pins σ H' d/\TurnC C X.prog X.w X.K tg J fp c e/\e 0 d.heap/\(∀b∈fp,pZ X pins H' b)/\R J H'
abbrev PIE:=Q9 Vr
def R1(C:Cx->Prop)(X:Cx)(tg iter:Expr)(b:TI):Prop:=
 ∀(pins:L1)(s:œ)(σ:St)(H:Hp)(R:It->Hp->Prop),Inv X pins σ H s->b σ H R->
  wpAny ↑4 X.A (eval iter X.env) (λv a=>wpAny ↑4 X.A (pyIter v) (Q9 C X pins σ tg R) X.xe a) X.xe s
abbrev PI:=R1 Vr
def YV(a:s.heap.get? it=some o)(b:o.cls=.type n)(c:o.data=.fields vs)
  (hn:["enumerate","zip","dict_itemiterator","dict_reverseitemiterator","odict_iterator","itertools.zip_longest","itertools.pairwise"].contains n=false) (hQ:Q () s):wpAny M A (letOwnedTupleGo tg (.ref it) u) Q E s:=by
 cases tg<;>first
  |exact wP hQ
  |(cases u<;>first
    |exact wP hQ
    |(refine wB (wpAny_load a ?_)
      rw[b,c];show wpAny M A (if _=true then _ else _) Q E s;rw[iN (by intro h;rw[hn]at h;cases h)];exact wP hQ))
noncomputable def zBR(K:U0)(a:Addr):It:=
 ⟨λi H=> ∃xs x,SqL K H a xs/\xs[i]? =some x,λi H x H'=>H'=H/\ ∀xs,SqL K H a xs->xs[i]? =some x,λi H=> ∃xs,SqL K H a xs/\↑8<=i⟩
noncomputable def zBS(K:U0)(a:Addr):It:=
 ⟨λi H=> ∃xs x,SqT K H a xs/\xs[i]? =some x,λi H x H'=>H'=H/\ ∀xs,SqT K H a xs->xs[i]? =some x,λi H=> ∃xs,SqT K H a xs/\↑8<=i⟩
noncomputable def zBT(lo:Int)(n:Nat):It:=⟨λi _=>i<n,λi H x H'=>H'=H/\x=.int (lo+i),λi _=>n<=i⟩
theorem LK{K:U0}(a it):Turn P w K tg (zBR K a) [it] it (λi h=>h.IsListIter it a i) where
 mem:=by simp
 obj:=λi h st b hb=>by
  have e:=by simpa using hb
  subst e;refine st.b λo e c d=>?_;exact Z3 o e (λv z=>by rw[d]at z;cases z)
 keep:=λi h h' st k=>st.at λo e=>k it (by simp) o e
 item:=by intro X hP hw hK hc i pins s σ H E I hf st hg;subst hP hw hK;refine hg.d λxs x hq hx=>?_;refine(I.list hq).b λits rv p hz=>?_;refine(rv.get hx).a λu hu ru=>?_;refine(hf it (by simp)).f λf0 f1 f2 f3 f4 f5=>?_;refine wpAny_pyNext_list_item st p.isList (by simpa using hu) λh' st' sb=>?_;refine(id st').b λo e c d=>?_;exact Z3 u rfl (YV e c d ↑11 (XD x H (I.turned (λb o hb e=>(sb.2 b hb).trans e) f0 f1 f3 f4 f5) ru ⟨rfl,λys hy=>by rw[I.list_inj hy hq];exact hx⟩ st' (λb hb=>(hf b hb).1)))
 done:=by intro X hP hw hK hc i pins s σ H E I hf st hg;subst hP hw hK;refine hg.a λxs hq hx=>?_;refine(I.list hq).b λits rv p hz=>?_;refine(hf it (by simp)).f λf0 f1 f2 f3 f4 f5=>?_;have hl:=rv.length;exact wpAny_pyNext_list_end (I.ok.hd hc) st p.isList (by simp;lia) λh' eb=>⟨rfl,I.turned (λb o hb e=>eb b o hb e) f0 f1 f3 f4 f5⟩
 self:=λ_ _ _ _ _ st h=>wpAny_pyIter_listiter st h
theorem HG{K:U0}(a it):Turn P w K tg (zBS K a) [it] it (λi h=>h.IsTupleIter it a i) where
 mem:=by simp
 obj:=λi h st b hb=>by
  have e:=by simpa using hb
  subst e;refine st.b λo e c d=>?_;exact Z3 o e (λv z=>by rw[d]at z;cases z)
 keep:=λi h h' st k=>st.at λo e=>k it (by simp) o e
 item:=by intro X hP hw hK hc i pins s σ H E I hf st hg;subst hP hw hK;refine hg.d λxs x hq hx=>?_;refine(I.tuple hq).b λits rv p hz=>?_;refine(rv.get hx).a λu hu ru=>?_;refine(hf it (by simp)).f λf0 f1 f2 f3 f4 f5=>?_;refine wpAny_pyNext_tuple_item st p (by simpa using hu) λh' st' sb=>?_;refine(id st').b λo e c d=>?_;exact Z3 u rfl (YV e c d ↑11 (XD x H (I.turned (λb o hb e=>(sb.2 b hb).trans e) f0 f1 f3 f4 f5) ru ⟨rfl,λys hy=>by rw[I.tuple_inj hy hq];exact hx⟩ st' (λb hb=>(hf b hb).1)))
 done:=by intro X hP hw hK hc i pins s σ H E I hf st hg;subst hP hw hK;refine hg.a λxs hq hx=>?_;refine(I.tuple hq).b λits rv p hz=>?_;refine(hf it (by simp)).f λf0 f1 f2 f3 f4 f5=>?_;have hl:=rv.length;exact wpAny_pyNext_tuple_end (I.ok.hd hc) st p (by simp;lia) λh' eb=>⟨rfl,I.turned (λb o hb e=>eb b o hb e) f0 f1 f3 f4 f5⟩
 self:=λ_ _ _ _ _ st h=>wpAny_pyIter_tupleiter st h
theorem WA{K:U0}(it)(lo)(n):Turn P w K tg (zBT lo n) [it] it (λi h=>IsRangeIter h it (lo+ i  * 1) ( n  -  i ) 1) where
 mem:=by simp
 obj:=λi h st b hb=>by
  have e:=by simpa using hb
  subst e;exact Z3 _ st (λv z=>by cases z)
 keep:=λi h h' st k=>k it (by simp) _ st
 item:=by intro X hP hw hK hc i pins s σ H E I hf st hg;subst hP hw hK;refine(hf it (by simp)).f λf0 f1 f2 f3 f4 f5=>?_;refine(Walks.range (prog:=X.prog) (w:=X.w) (I.ok.hd hc) it lo 1 n).item i s _ _ hg st λv h' tk hv st' kk=>?_;obtain⟨t,rfl⟩:=hv;refine Z3 _ rfl (YV st' rfl rfl ↑11 (XD (.int _) H (I.turned (λb o hb e=>kk b o (by simpa using hb) e) f0 f1 f3 f4 f5) ⟨t,?_⟩ ⟨rfl,rfl⟩ st' (λb hb=>(hf b hb).1)));rw[Int.mul_one]
 done:=by intro X hP hw hK hc i pins s σ H E I hf st hg;refine(hf it (by simp)).f λf0 f1 f2 f3 f4 f5=>?_;exact wpAny_pyNext_range_end (I.ok.hd hc) st (by have:n<=i:=hg;lia) λh' eb=>⟨rfl,I.turned (λb o hb e=>eb b o hb e) f0 f1 f3 f4 f5⟩
 self:=λ_ _ _ _ _ st h=>wpAny_pyIter_rangeiter st h
section
def R3(K:U0)(c:TE):TI:=λσ H R=>c σ H λx b=> ∃a,x=.ref a/\(∃xs,SqL K b a xs)/\R (zBR K a) b
def iTup(K:U0)(c:TE):TI:=λσ H R=>c σ H λx b=> ∃a,x=.ref a/\(∃xs,SqT K b a xs)/\R (zBS K a) b
def Mp(c:PE X l tl):PI X tg l (R3 X.K tl):=by
 intro pins s σ H R I h;refine wG (c pins s σ H _ I h) λv u ⟨x,k,I1,d,n⟩=>?_;refine n.b λa e b q=>?_;obtain ⟨xs,i⟩:=b;subst e;subst d;refine(I1.list i).b λj r p w=>?_;refine ļ p.isList ?_;refine XL _ _ _ _ k rfl (I1.kept λb o e=>hP0 _ e) (LK a _) ↑26 (λb m=>?_) q;have e:=by simpa using m
 subst e;rw[29]
def Vs(c:PE X l tl):PI X tg l (iTup X.K tl):=by
 intro pins s σ H R I h;refine wG (c pins s σ H _ I h) λv u ⟨x,k,I1,d,n⟩=>?_;refine n.b λa e b q=>?_;obtain ⟨xs,i⟩:=b;subst e;subst d;refine(I1.tuple i).b λj r p w=>?_;refine wpAny_pyIter_tuple p ?_;refine XL _ _ _ _ k rfl (I1.kept λb o e=>hP0 _ e) (HG a _) ↑26 (λb m=>?_) q;have e:=by simpa using m
 subst e;rw[29]
theorem Fq{lo:Int}(I:↑2)(h: -(2 ^ 62)<=lo)(i:lo<2 ^ 62)(j: -(2 ^ 62)<=hi)(c:hi<2 ^ 62)
  (q:R (zBT lo (hi - lo).toNat) H):wpAny ↑4 X.A (pyIter (.ref ↑0)) (PIE X pins σ tg R) E {s with heap:=s.heap.push {cls:=.type "range",data:=.fields #[.int lo t,.int hi u,.int 1 v]},toks:=tk}:=by
 refine wpAny_pyIter_range (IsRange.new ..) (small_one h i j c) ?_;have I1:Inv X pins σ H {s with heap:=s.heap.push {cls:=.type "range",data:=.fields #[.int lo t,.int hi u,.int 1 v]},toks:=tk}:=I.kept λb o e=>hP0 _ e
 refine XL _ _ _ _ H rfl (I1.kept λb o e=>hP0 _ e) (WA _ lo (hi - lo).toNat) ?_ (λb d=>?_) q
 .have k:lo+((0:Nat):Int) * 1=lo:=by simp
  have a:(((hi - lo).toNat:Nat):Int) - ((0:Nat):Int)=Builtin.Range.rangeSize lo hi 1:=by rw[rangeSize_one];split<;>lia
  show IsRangeIter _ _ _ _ 1;rw[k,a];exact á _ rfl
 .have e:b=(s.heap.push {cls:=.type "range",data:=.fields #[.int lo t,.int hi u,.int 1 v]}).objs.size:=by simpa using d
  subst e;rw[29]
def R4(b:TA):TI:=λσ H R=>b σ H λvs a=> ∃j:Int,vs=[.int j]/\ -(2 ^ 62)<=j/\j<2 ^ 62/\R (zBT 0 j.toNat) a
theorem Bu(k:Gl X "range")(hm:X.mg "range"=none)(i:PA X [a] ta)(hs:starEach [a] X.env=[↑62]:=by rfl):PI X tg (.Call (.Name "range" p) [a] [] pos) (R4 ta):=by
 intro pins s σ H R I h;refine Call_ (pY I k hm boot_range (Ē (wG (i pos pins s σ H _ I h) λn o ⟨vs,m,I1,c,b⟩=>?_) hs rfl));obtain⟨j,e,b,d,q⟩:=b;subst e
 cases c with
 |cons r rr=>
  cases rr;obtain⟨t,rfl⟩:=r;exact call_range_1 (Fq I1 #[0] #[0] b d (by simpa using q))
def tFor(j:TI)(g:TG)(d:TS):TS:=λD σ H=>j σ H λJ e=> ∃W:Nat->Nat->St->Hp->Prop,(∃m,W 0 m σ e)/\ ∀i m σ H,W i m σ H->
 (J.stop i H/\D.nx σ H)\/(J.go i H/\ ∃N:St->Hp->Prop,(∀a H',N a H'-> ∃c,c<m/\W (i+1) c a H')/\ ∀x H',J.yld i H x H'->g x σ H' λb h=>d {D with nx:=N,ct:=N,bk:=D.nx} b h)
noncomputable def vW(fp:B9)(h:Heap):List (Addr×Obj):=fp.filterMap λb=>(h.get? b).map λo=>(b,o)
def vX(a:b∈fp)(e:h.get? b=some o):(b,o)∈vW fp h:=mem_filterMap.mpr ⟨b,a,by rw[e];rfl⟩
def Bv(a:p∈vW fp h):p.1∈fp/\h.get? p.1=some p.2:=by
 refine(mem_filterMap.mp a).a λb c e=>?_
 cases q:h.get? b with
 |none=>rw[q]at e;cases e
 |some o=>
  rw[q]at e;have d:_=p:=ä e;subst d;exact⟨c,q⟩
def Inv.pinned(I:↑2)(k: ∀b∈fp,pZ X pins H b)(n: ∀b∈fp, ∃o,s.heap.get? b=some o/\ ∀v,o.data≠.cell v):Inv X (pins++vW fp s.heap) σ H s:=
 I.pins_of λp i=>(ê.mp i).elim (λz=>I.pin p (õ _ z)) λz=>by refine V0 λg=>?_;obtain⟨a,e⟩:=Bv z;refine(k p.1 a).h λm h j _=>?_;refine(n p.1 a).a λo c d=>?_;rw[e]at c;refine g ?_;cases c;exact⟨e,m,h,j,d⟩
def Inv.unpinned(I:Inv X (pins++pl) σ H s):Inv X pins σ H s:=I.pins_of λp a=>I.pin p (õ _ (ă _ a))
def Vt(F:PassesOwn ↑4 X.A X.env X.xe)(Z:X.calm=true)(hi:PI X tg iter wi)(hg:PG X tg g)(k:PSs X body tb)
  (hs: ∀x,foldedSetIterable iter X.env x=pure x:=by intro _;rfl):PS X (.For tg iter body [] pos) (tFor wi g tb):=by
 intro pins s σ H D I h;refine wpAny_For (wG (hi pins s σ H _ I h) λv s1 h1=>wG h1 λaa s2 h2=>?_) hs;refine V0 λV=>?_;obtain⟨it,fp,U,J,H2,e,I2,T,P,f2,W,⟨m0,w0⟩,C⟩:=h2;subst e;have p: ∀{H':Hp},(∀b∈fp,H' b=none)-> ∀b∈fp,pZ X pins H' b:=λhn b k=>⟨hn b k,(f2 b k).2⟩
 refine V ?_;refine codeAny_forLoop_any (λn s'=> ∃i y H',Inv X pins y H' s'/\U i s'.heap/\(∀b∈fp,H' b=none)/\W i n y H') ?_ m0 (YR 0 (σ) H2 ⟨I2,P,λb k=>(f2 b k).1,w0⟩);rintro n s3 ⟨i,c,L,Y,K,E,w3⟩;rcases C i n c L w3 with⟨stop,qn⟩|⟨go,N,hN,step⟩
 .refine wpAny_passesOwn F (wG (T.done X rfl rfl rfl Z i pins s3 c L X.xe Y (p E) K stop) λr s4 ⟨Q,I4⟩=>?_);subst Q;exact wpAny_execs_nil (YS c L I4 qn)
 .refine wpAny_passesOwn F (wG (T.item X rfl rfl rfl Z i pins s3 c L X.xe Y (p E) K go) λr s4 ⟨u,Q,h4⟩=>?_);subst Q;refine wpAny_passesOwn F (wG h4 λ_ s5 ⟨x,H5,I5,r5,y5,B,M⟩=>?_);refine wpAny_passesOwn F (wG (hg _ s5 c H5 x u _ (I5.pinned (p M) (T.obj _ _ B)) r5 (step x H5 y5)) λ_ s6 ⟨O,H6,I6,q6⟩=>?_);refine wpAny_passesOwn F (wG (k _ s6 O H6 _ I6 q6) λf S z=>?_);have q: ∀{a:St}{H7:Hp},Inv X _ a H7 S->N a H7-> ∃m,m<n/\ ∃i y H',Inv X pins y H' S/\U i S.heap/\(∀b∈fp,H' b=none)/\W i m y H':=λ{a H7} j G=>by refine(hN a H7 G).a λm' hm w7=>?_;refine⟨m',hm,_,a,H7,j.unpinned,T.keep _ _ _ B λb k o e=>(j.pin _ (õ _ (õ _ (vX k e)))).1,λb k=>?_,w7⟩;refine(T.obj _ _ B b k).a λo e d=>?_;exact(j.pin _ (õ _ (õ _ (vX k e)))).2.1
  cases f with
  |next=>refine z.d λa H7 j G=>?_;exact q j G
  |cont=>refine z.d λa H7 j G=>?_;exact q j G
  |brk=>refine z.d λa H7 j z=>?_;exact YS a H7 j.unpinned z
  |ret v=>refine z.g λx7 a H7 r=>r.e λj r7 z=>?_;exact YR x7 a H7 ⟨j.unpinned,r7,z⟩
end
abbrev R2:=V->V->Hp->VK->Prop
def OpR(X:Cx)(f:Ŕ->Ŕ->Sem Ŕ)(r:R2):Prop:=
 ∀(pins:L1)(s:œ)(σ:St)(H:Hp)(x y:V)(v u:Ŕ)(Q:VK),Inv X pins σ H s->RelV x v->RelV y u->r x y H Q->
  wpAny ↑4 X.A (f v u) (EP X pins σ Q) X.xe s
def UnR(X:Cx)(f:Ŕ->Sem Ŕ)(r:V->Hp->VK->Prop):Prop:=
 ∀(pins:L1)(s:œ)(σ:St)(H:Hp)(x:V)(v:Ŕ)(Q:VK),Inv X pins σ H s->RelV x v->r x H Q->
  wpAny ↑4 X.A (f v) (EP X pins σ Q) X.xe s
def CallR(X:Cx)(f:Ŕ)(r:List V->Hp->VK->Prop):Prop:=
 ∀(pins:L1)(s:œ)(σ:St)(H:Hp)(xs:List V)(us:A0)(Q:VK),Inv X pins σ H s->Vals xs us->r xs H Q->
  wpAny ↑4 X.A (call f us) (EP X pins σ Q) X.xe s
def TruR(X:Cx)(r:V->Hp->(Bool->Hp->Prop)->Prop):Prop:=
 ∀(pins:L1)(s:œ)(σ:St)(H:Hp)(x:V)(v:Ŕ)(Q:Bool->Hp->Prop),Inv X pins σ H s->RelV x v->r x H Q->
  wpAny ↑4 X.A (truthy v) (TP X pins σ Q) X.xe s
def zBU(r:R2)(d a:TE):TE:=λσ H Q=>d σ H λx b=>a σ b λy c=>r x y c Q
def tUn(r:V->Hp->VK->Prop)(b:TE):TE:=λσ H Q=>b σ H λx a=>r x a Q
def rI(C:Int->Int->Prop)(g:Int->Int->V):R2:=λx y H Q=> ∃i j,x=.int i/\y=.int j/\C i j/\Q (g i j) H
def Fs(g:Int->Int->V):R2:=λx y H Q=> ∃i j,x=.int i/\y=.int j/\Q (g i j) H
def rU(g:Int->V):V->Hp->VK->Prop:=λx H Q=> ∃i,x=.int i/\Q (g i) H
section
def Vu(i:PE X a ta)(n:PE X b tb){R:V->V->Hp->Prop}(I:↑2)
  (h:ta σ H λx B=>tb σ B λy j=>R x y j)  {f:Ŕ->Ŕ->Sem Ŕ}
  (hf: ∀v u z x y j,Inv X pins σ j z->RelV x v->RelV y u->R x y j->wpAny ↑4 X.A (f v u) Q X.xe z):
  wpAny ↑4 X.A (eval a X.env) (λv q=>wpAny ↑4 X.A (eval b X.env) (λu m=>wpAny ↑4 X.A (f v u) Q X.xe m) X.xe q) X.xe s:=by
 refine wG (i pins s σ H _ I h) λv p ⟨x,B,I1,c,o⟩=>?_;refine wG (n pins p σ B _ I1 o) λu z ⟨y,j,d,e,k⟩=>?_;exact hf v u z x y j d c e k
def R8(j:UnR X (unaryOp op) r)(c:PE X a ta):PE X (.UnaryOp op a pos) (tUn r ta):=by rw[22];exact UnaryOp_ (wG (c pins s σ H _ I h) λv i ⟨x,b,I1,d,e⟩=>j pins i σ b x v Q I1 d e)
def zBV{g:Int->Int->Int}
  (rule: ∀ i j  t u  s  Q  E ,C i j->Q (.int (g i j) s.toks) {s with toks:=s.toks+1}->wpAny ↑4 X.A (f (.int i t) (.int j u)) Q E s):
  OpR X f (rI C λi j=>.int (g i j)):=by
 intro pins s σ H x y v u Q I b d h;refine h.k λi j k m c q=>?_;subst k;subst m;obtain⟨t,rfl⟩:=b;obtain⟨a,rfl⟩:=d;exact rule i j t a s _ _ c (Z0 (.int _) H (I.tok _) ⟨_,rfl⟩ q)
def Mq{g:Int->Int->Int}
  (rule: ∀ i j  t u  s  Q  E ,Q (.int (g i j) s.toks) {s with toks:=s.toks+1}->wpAny ↑4 X.A (f (.int i t) (.int j u)) Q E s):
  OpR X f (Fs λi j=>.int (g i j)):=by
 intro pins s σ H x y v u Q I b c h;refine h.c λi j d k q=>?_;subst d;subst k;obtain⟨t,rfl⟩:=b;obtain⟨a,rfl⟩:=c;exact rule i j t a s _ _ (Z0 (.int _) H (I.tok _) ⟨_,rfl⟩ q)
def R9{g:Int->Int->Bool}
  (rule: ∀ i j  t u  s  Q  E ,Q (.bool (g i j)) s->wpAny ↑4 X.A (f (.int i t) (.int j u)) Q E s):
  OpR X f (Fs λi j=>.bl (g i j)):=by
 intro pins s σ H x y v u Q I b c h;refine h.c λi j d k q=>?_;subst d;subst k;obtain⟨t,rfl⟩:=b;obtain⟨a,rfl⟩:=c;exact rule i j t a s _ _ (Z0 (.bl _) H I rfl q)
def CMul(i j:Int):Prop:=(-(2 ^ 64)<i/\i<2 ^ 64)\/(-(2 ^ 64)<j/\j<2 ^ 64)
def CMul.ok(h:CMul i j):IntMulOk i j:=by
 rcases h with⟨h1,h2⟩|⟨h1,h2⟩
 .exact .of_left (intBits_le_64 h1 h2)
 .exact .of_right (intBits_le_64 h1 h2)
def Vv:OpR X (binaryOp .Add) (Fs λi j=>.int (i+j)):=Mq λ_ _ _ _ _ _ _ q=>add_int q
def unI{g:Int->Int}
  (rule: ∀ i  t  s  Q  E ,Q (.int (g i) s.toks) {s with toks:=s.toks+1}->wpAny ↑4 X.A (f (.int i t)) Q E s):
  UnR X f (rU λi=>.int (g i)):=by
 intro pins s σ H x v Q I a h;refine h.a λi b q=>?_;subst b;obtain⟨t,rfl⟩:=a;exact rule i t s _ _ (Z0 (.int (g i)) H (I.tok _) ⟨_,rfl⟩ q)
end
section
variable{b c:Expr}
def WB(I:↑2)(q:Q (.bl k) H)(e:k=k'):EP X pins σ Q (.bool k') s:=by subst e;exact Z0 (.bl k) H I rfl q
def RT:OpR X (compareOp .LtE) (Fs λi j=>.bl (decide (i<=j))):=R9 λ_ _ _ _ _ _ _ q=>le_int q
def Bw:OpR X (compareOp .In) (λx y H Q=> ∃i j,x=.str i/\y=.str j/\Q (.bl ↑57) H):=by intro pins s σ H x y v u Q I a b h;refine h.c λi j d g q=>?_;subst d;subst g;obtain⟨t,rfl⟩:=a;obtain⟨c,rfl⟩:=b;exact in_str (WB I q rfl)
def NU:OpR X (compareOp .NotIn) (λx y H Q=> ∃i j,x=.str i/\y=.str j/\Q (.bl (!↑57)) H):=by intro pins s σ H x y v u Q I a b h;refine h.c λi j d g q=>?_;subst d;subst g;obtain⟨t,rfl⟩:=a;obtain⟨c,rfl⟩:=b;exact notIn_str (WB I q rfl)
def OpR.or(h:OpR X f r)(h':OpR X f r'):OpR X f (λx y H Q=>r x y H Q\/r' x y H Q):=by
 intro pins s σ H x y v u Q I a b q;rcases q with q|q
 .exact h pins s σ H x y v u Q I a b q
 .exact h' pins s σ H x y v u Q I a b q
def Ft(b)(h:op≠.In:=by decide)(c:op≠.NotIn:=by decide):behindInMarks op b=false:=by
 have a:(op==CmpOp.In)=false:=by cases op<;>first |rfl|exact absurd rfl h
 have d:(op==CmpOp.NotIn)=false:=by cases op<;>first |rfl|exact absurd rfl c
 cases b<;>first |rfl|(show(_&&(_||_)&&_)=false;rw[a,d,Bool.or_self,Bool.and_false,Bool.false_and])
def To(t:TE):TT:=λσ H Q=>t σ H λx H'=> ∃k,x=.bl k/\Q k H'
def WC(r d:R2)(m b e:TE):TE:=λσ H Q=>m σ H λx c=>b σ c λy i=>r x y i λz a=> ∃k,z=.bl k/\
 (if k=true then e σ a λj h=>d y j h Q else Q (.bl false) a)
def Fw(N:OpR X (compareOp op) r)(i:OpR X (compareOp op') r')(U:PE X a ta)(Y:PE X b tb)(S:PE X c tc)
  (hm:lastMarks [op,op'] [b,c]=false:=by with_unfolding_all rfl):PT X (.Compare a [op,op'] [b,c] pos) (To (WC r r' ta tb tc)):=by
 rw[22]
 refine isTrue_chain (wG (U pins s σ H _ I h) λv D ⟨x,G,I1,q,B⟩=>test_link (wG (Y pins D σ G _ I1 B) λu J ⟨y,H2,w,o,W⟩=>
  wG (N pins J σ H2 x y v u _ w q o W) λd L ⟨z,n,m,K,k,e,j⟩=>?_)) hm
 subst e;subst K;refine ć ?_
 cases k with
 |false=>
  refine j.a λk' e' M=>?_;cases e';exact ite_ff (Z3 n m M)
 |true=>
  refine ite_tt (test_last (wG (S pins L σ n _ m j) λA p ⟨T,P,E,r4,q4⟩=>wG (i pins p σ P y T u A _ E o r4 q4) λd' s5 ⟨z2,H5,C,Z,k2,F,O⟩=>?_));subst F;subst Z;exact ć (Z3 H5 C O)
def Wb(K:U0)(x:V)(H:Hp)(k:Bool):Prop:=
 match x with
 |.non=>k=false
 |.bl b=>k=b
 |.int i=>k=(i !=0)
 |.str y=>y.length<=sizeLine/\k=((y.length:Int) !=0)
 |.byt y=>y.size<=sizeLine/\k=((y.size:Int) !=0)
 |.ref p=>(∃xs,SqL K H p xs/\k= !xs.isEmpty)\/(∃xs,SqT K H p xs/\k= !xs.isEmpty)\/ ∃a,H p=some (.dK a)/\k= !a.isEmpty
 |_=>False
def HI(r:Vals xs its):(!its.toArray.isEmpty)= !xs.isEmpty:=by cases r<;>simp
def DS: sizeLine <2 ^ 63:=by rw[ĝ];decide
theorem Wc:TruR X (λx H Q=> ∃k,Wb X.K x H k/\Q k H):=by
 intro pins s σ H x v Q I d h;obtain⟨k,e,q⟩:=h;have hs:=ĝ
 cases x with
 |non=>
  subst d;have a:=e;subst a;exact truthy_none ⟨H,I,q⟩
 |bl b=>
  subst d;have a:=e;subst a;exact ć ⟨H,I,q⟩
 |int i=>
  obtain⟨t,rfl⟩:=d;have a:=e;subst a;exact PySem.P.truthy_int ⟨H,I,q⟩
 |str y=>
  obtain⟨t,rfl⟩:=d;obtain⟨w,a⟩:y.length<=sizeLine/\k=_:=e;subst a;exact PySem.P.truthy_str #[0] ⟨H,I.tok _,q⟩
 |byt y=>
  obtain⟨t,rfl⟩:=d;obtain⟨w,a⟩:y.size<=sizeLine/\k=_:=e;subst a;exact PySem.W.truthy_bytes #[0] ⟨H,I.tok _,q⟩
 |ref p=>
  subst d;have a:=e;rcases a with⟨xs,hx,a⟩|⟨xs,hx,a⟩|⟨kvs,hx,a⟩
  .rw[20];subst a;obtain⟨n,r,j,o⟩:=I.list hx;have c:=r.length;refine g ?_;exact wpAny_truthy_list j.isList (by simp only[sA0];lia) (Z3 H (I.tok _) (by rw[HI r];exact q))
  .subst a;obtain⟨n,r,j,o⟩:=I.tuple hx;have c:=r.length;exact truthy_tuple j (by simp only[sA0];lia) (Z3 H (I.tok _) (by rw[HI r];exact q))
  .subst a;obtain⟨o,u,vs,r,m⟩:kvs.length<=sizeLine/\_=false/\ ∃vs,KV kvs vs/\s.heap.DictOf _ p vs:=I.hok p _ hx;have c:=Paired.length r;exact wpAny_truthy_dict u m #[0] (Z3 H (I.tok _) (by rw[(show (!vs.isEmpty)= !kvs.isEmpty by cases r<;>rfl)];exact q))
 |_=>exact e.elim
def WF:OpR X (binaryOp .Add) (λx y H Q=> ∃i j,x=.str i/\y=.str j/\i.length+↑44<=sizeLine/\Q (.str (i++j)) H):=by intro pins s σ H x y v u Q I b c h;refine h.k λi j g k d q=>?_;subst g;subst k;obtain⟨t,rfl⟩:=b;obtain⟨a,rfl⟩:=c;exact add_str (λa e=>(Z0 (.str _) H (I.tok _) ⟨_,rfl⟩ q)) d
def vals1(r:Vals [x] us): ∃u,us=[u]/\RelV x u:=by
 cases r with
 |cons r1 r2=>cases r2;exact Z3 _ rfl r1
def vals2(r:Vals [x,y] us): ∃u j,us=[u,j]/\RelV x u/\RelV y j:=by
 cases r with
 |cons r1 r2=>
  cases r2 with
  |cons r3 r4=>cases r4;exact Z0 _ _ rfl r1 r3
def Fy:CallR X (.builtin "abs") (λxs H Q=> ∃i,xs=[.int i]/\Q (.int (if i<0 then -i else i)) H):=by intro pins s σ H xs b Q I r h;refine h.a λi c q=>?_;subst c;obtain⟨u,rfl,t,rfl⟩:=vals1 r;exact call_abs_int λu a=>(Z0 (.int (if i<0 then -i else i)) H (I.tok _) ⟨_,rfl⟩ q)
end
structure Cls(K:U0)(C:Addr):Prop where
 pg:PySem.W.plainGet K C Str.empty=true
 hd:PySem.W.hasDictIn K C=true
 po:PySem.W.plainOver K C=true
 sa:PySem.W.findIn K (.ref C) "__setattr__"=some (some (.builtin "object.__setattr__"))
structure Meth(K:U0)(C:Addr)(m:Str)(f:Addr):Prop where
 at_:PySem.W.findIn K (.ref C) m=some (some (.ref f))
 fn:PySem.W.isFn K (.ref f)=true
 kp:PySem.W.keepIn K (.ref f)=true
section
variable{H:Hp}
inductive vA(K:U0)(H:Hp):V->Ŕ->Prop where
 |non:vA K H .non (.type "NoneType")
 |bl (x:Bool):vA K H (.bl x) (.type "bool")
 |int (i:Int):vA K H (.int i) (.type "int")
 |str (x:Str):vA K H (.str x) (.type "str")
 |flt (x:UInt64):vA K H (.flt x) (.type "float")
 |lst {a:Addr} {xs:List V} (e:H a=some (.lst xs)):vA K H (.ref a) (.type "list")
 |frz {a:Addr} {o:Obj} {xs:List V} (e:H a=some (.frz o (.lst xs))):vA K H (.ref a) (.type "list")
 |tup {a:Addr} {xs:List V} (e:H a=some (.tup xs)):vA K H (.ref a) (.type "tuple")
 |dK {a:Addr} {kvs:List (Key×V)} (e:H a=some (.dK kvs)):vA K H (.ref a) (.type "dict")
 |dT {a:Addr} {kvs:List (List Key×V)} (e:H a=some (.dT kvs)):vA K H (.ref a) (.type "dict")
 |ins {a C dx:Addr} {fs:List (Str×V)} (e:H a=some (.ins C dx fs)) (cl:Cls K C) (ha:PySem.W.findIn K (.ref C) "__class__"=some (some (.builtin "object.__class__")))
   (hn:PySem.W.specialIn K (.builtin "object.__class__") "__get__"=some (some (.builtin "getset_descriptor.__get__"))) (htk:PySem.W.takesIn K (.builtin "object.__class__")=some true)
   (hm:PySem.W.mroIn K C (.type "object")=some true):vA K H (.ref a) (.ref C)
end
structure Room(k:Nat)(A:Around):Prop where
 hd:A.handled=none
 dp:A.depth+3 * k+5<recursionLimit
 un:A.units+16 * k+200<cLine
theorem Room.mono(r:Room k A)(h:j<=k):Room j A:=⟨r.hd,by have:=r.dp;lia,by have:=r.un;lia⟩
theorem Room.deeper(r:Room (k+1) A)(env):Room k (A.deeper env):=
 ⟨r.hd,by have:=r.dp;show A.depth+1+3 * k+5<_;lia,by have:=r.un;show A.units+3+16 * k+200<_;lia⟩
theorem Room.in1(r:Room (k+1) A):Room k A.in1:=
 ⟨r.hd,by have:=r.dp;show A.depth+3 * k+5<_;lia,by have:=r.un;show A.units+1+16 * k+200<_;lia⟩
def Room.depth(r:Room k A):A.depth<recursionLimit:=by have:=r.dp;lia
def Room.units(r:Room k A):A.units+64<cLine:=by have:=r.un;lia
def tNil:TA:=λ_ H Q=>Q [] H
def T3(c:TE)(tr:TA):TA:=λσ H Q=>c σ H λx a=>tr σ a λxs b=>Q (x::xs) b
section
variable{e:Expr}{pos:Pos}
def WG:PA X [] tNil:=λ_ _ _ _ H Q I h=>Calls.spliced_nil (Z0 ([]) H I .nil h)
abbrev q8(X:Cx)(e:Expr)(es:List Expr):Prop:=starEach (e::es) X.env=(false,eval e X.env)::starEach es X.env
def NV(j:PE X e te)(m:PA X es t)(hs:q8 X e es:=by rfl):PA X (e::es) (T3 te t):=by intro pos pins s σ H Q I h;rw[hs];show wpAny _ _ _ _ _ s;refine Calls.spliced_cons (wG (j pins s σ H _ I h) λu o ⟨x,d,I1,a,n⟩=>?_);exact wG (m pos pins o σ d _ I1 n) λq p ⟨xs,k,b,c,i⟩=>(Z0 _ k b (.cons a c) i)
def tTup(t:TA):TE:=λσ H Q=>t σ H λxs a=>↑8<=sizeLine/\ ∀p,a p=none->Q (.ref p) (xV a p (.tup xs))
def tLst(t:TA):TE:=λσ H Q=>t σ H λxs a=>↑8<=sizeLine/\ ∀p,a p=none->Q (.ref p) (xV a p (.lst xs))
end
abbrev Sp:=List V->Hp->VK->XK->Prop
abbrev Bx:=List Env->Hp->Shared->XK->VP
structure Env0(P:ŕ)(w:World)(K:U0)(mg:K0)(base:Heap)(A:Around)(outer:List Env)(s:œ)(H:Hp):Prop where
 frames:A.frames=some outer
 mod:Mod K mg base
 bs: ∀b o,base.get? b=some o->s.heap.get? b=some o/\H b=none
 bsz:base.objs.size<=↑0
 funs:s.heap.FunFrames base outer
 frf: ∀b∈Ez outer,H b=none
 hok:HOk P w H s.heap
 bare:AllBare s.gens
def CE(a:List Env)(P:ŕ)(w:World)(H:Hp)(s:œ)(Q:VK)(u:Ŕ)(b:œ):Prop:=
 ∃v H',b.os=s.os/\AllBare b.gens/\Un (Ez a) [] H H' s.heap b.heap/\HOk P w H' b.heap/\RelV v u/\Q v H'
def CR(CX:Bx)(a:List Env)(P:ŕ)(w:World)(H:Hp)(s:œ)(Q:VK)(E:XK)(r:Result)(b:œ):Prop:=
 match r with
 |.ok (.ret u)=>CE a P w H s Q u b
 |.ok _=>False
 |.error e=>CX a H s E e b
structure FnOk(P:ŕ)(w:World)(K:U0)(mg:K0)(base:Heap)(CX:Bx)(k:Nat)(f:Addr)(fd:FuncData)(ps:C0)(sp:Sp):Prop where
 len: ∀vs H Q E,sp vs H Q E->↑10=ps.length
 run: ∀(A:Around)(outer:List Env)(s:œ)(H:Hp)(args:Args)(us:A0)(vs:List V)(Q:VK)(E:XK),Room k A->Env0 P w K mg base A outer s H->BindsTo s fd args (ps.zip us)->Vals vs us->sp vs H Q E->
  codeAny (model P w) A (.call (.ref f) args) (CR CX outer P w H s Q E) s
def FnOk.imp{K:U0}(F:FnOk P w K mg base CX k f fd ps sp)
  (h: ∀vs H Q E,sp' vs H Q E->sp vs H Q E):FnOk P w K mg base CX k f fd ps sp':=
 ⟨λvs H Q E q=>F.len vs H Q E (h _ _ _ _ q),λA a s H b i vs Q E e c d hv hs=>F.run A a s H b i vs Q E e c d hv (h _ _ _ _ hs)⟩
def Env0.in1{K:U0}(e:Env0 P w K mg base A outer s H):
  Env0 P w K mg base A.in1 outer s H:=⟨e.frames,e.mod,e.bs,e.bsz,e.funs,e.frf,e.hok,e.bare⟩
section
def Inv.env0(I:↑2):Env0 X.prog X.w X.K X.mg X.base X.A X.stack s H:=
 ⟨I.ok.frames,I.ok.mod,I.bs,ô I.ok.bsz I.sz,I.stack,I.stkFree,I.hok,I.bare⟩
def Inv.after(I:↑2)(h:CE X.stack X.prog X.w H s Q u s'):EP X pins σ Q u s':=by refine h.m λv H' b=>b.f λi a un e r q=>?_;obtain⟨j,g,d,t,c⟩:=s';obtain rfl:c=s.os:=i;exact Z0 v H' (I.call un e a (λb z=>absurd z (by simp))) r q
end
def T6(sp:Sp)(a:List V)(E:XK)(t:TA):TE:=λσ H Q=>t σ H λvs b=>sp (vs++a) b Q E
def Binds(K:U0)(a:FuncData)(ps:C0)(ds:A0):Prop:=
 ∀(s:œ)(us:A0),K.In s.heap->(us++ds).length=ps.length->BindsTo s a ⟨us,[]⟩ (ps.zip (us++ds))
def Binds.all{K:U0}(h: ∀us:List Ŕ,↑66=ps.length->bindArgs fd ⟨us,[]⟩=pure (ps.zip us)):Binds K fd ps []:=λs us _ a=>by rw[aN]at a ⊢;exact .of_eq (h us a)
def WH(CX:Bx)(X:Cx)(E:XK):Prop:= ∀(pins:L1)(σ:St)(H:Hp)(s:œ)(e:Ŕ)(a:œ),Inv X pins σ H s->CX X.stack H s E e a->X.xe e a
section
variable{p pos:Pos}{e:Expr}
def Wg(F:FnOk X.prog X.w X.K X.mg X.base CX k f fd ps sp)(j:Room k X.A)(d:Binds X.K fd ps ds)(i:Vals dvs ds)(c:WH CX X E)
  (I:↑2) (r:Vals vs us) (h:sp (vs++dvs) H Q E):wpAny ↑4 X.A (call (.ref f) us) (EP X pins σ Q) X.xe s:=by
 have b:Vals _ _:=r.append i;refine wpAny_call (codeAny_mono (F.run X.A X.stack s H ⟨us,[]⟩ _ _ Q E j I.env0 (d s us I.kIn (by rw[<-b.length];exact F.len _ _ _ _ h)) b h) λr m a=>?_)
 cases r with
 |error e=>exact c pins σ H s e m I a
 |ok fl=>
  cases fl with
  |ret u=>exact I.after a
  |next=>exact False.elim a
  |brk=>exact False.elim a
  |cont=>exact False.elim a
abbrev q9(X:Cx)(p:Pos)(es:List Expr):Prop:=(backTo p (starEach es X.env)).any (·.1)=false
def Mw(F:FnOk X.prog X.w X.K X.mg X.base CX k f fd ps sp)(j:Room k X.A)(c:Gl X x)(hm:X.mg x=some (.ref f))(b:PySem.W.keepIn X.K (.ref f)=true)(d:Binds X.K fd ps ds)(i:Vals dvs ds)(a:WH CX X E)
  (ha:PA X (e::es) t) (hdb:↑42=false:=by decide) (he:q8 X e es:=by rfl) (hpl:q9 X pos es:=by rfl):
  PE X ↑54 (T6 sp dvs E t):=by
 rw[22];refine wpAny_Call_Name_kw (NT I c hm ?_ hdb);refine PySem.W.callWith_K I.ok.mod.kin b (wG (ha pos pins s σ H _ I h) λo m ⟨vs,n,I1,r,q⟩=>⟨I1.kIn,?_⟩) he hpl;exact Wg F j d i a I1 r q
end
structure FnScope(N P:C0)(sc:Scope):Prop where
 kind:sc.kind=.function
 co:sc.isCoroutine=false
 gen:sc.isGenerator=false
 nd:N.Nodup
 pre:N.take P.length=P
 par: ∀x∈P,sc.names.lookup x=some .local\/sc.names.lookup x=some .cell
 nofree: ∀y∈sc.names,y.2≠.free
theorem LL{a:Str->Option NameKind}: ∀{binds}{m},(∀v,(x,v)∉binds)->bindL a binds m x=m x
 |[],_,_=>rfl
 |(n,v)::r,m,h=>by
  unfold bindL;rw[LL λw hw=>h w (mO _ hw)];split
  .have:x≠n:=by rintro rfl;exact h v mF0
   simp[this]
  .rfl
theorem LM{a:Str->Option NameKind}: ∀{binds}{m},(∀v,(x,v)∉binds)->bindC a binds m x=m x
 |[],_,_=>rfl
 |(n,v)::r,m,h=>by
  unfold bindC;rw[LM λw hw=>h w (mO _ hw)];split
  .rfl
  .have:x≠n:=by rintro rfl;exact h v mF0
   simp[this]
theorem LN{a:Str->Option NameKind}: ∀{P:C0}{vs}{i:Nat}{m},P.Nodup->P[i]? =some x->vs[i]? =some v->a x=some .local->
  bindL a (P.zip vs) m x=some v
 |[],_,_,_,_,h,_,_=>by simp at h
 |_::_,[],_,_,_,_,h,_=>by simp at h
 |p::P,w::vs,0,m,nd,h1,h2,hk=>by simp at h1 h2;subst h1;subst h2;show bindL a (_::P.zip vs) m p=_;unfold bindL;rw[LL λv hv=>(nodup_cons.mp nd).1 (of_mem_zip hv).1,iP hk];simp
 |p::P,w::vs,i+1,m,nd,h1,h2,hk=>by show bindL a _ m x=_;unfold bindL;exact LN (nodup_cons.mp nd).2 (by simpa using h1) (by simpa using h2) hk
theorem LO{a:Str->Option NameKind}: ∀{P:C0}{vs}{i:Nat}{m},P.Nodup->P[i]? =some x->vs[i]? =some v->a x≠some .local->
  bindC a (P.zip vs) m x=some v
 |[],_,_,_,_,h,_,_=>by simp at h
 |_::_,[],_,_,_,_,h,_=>by simp at h
 |p::P,w::vs,0,m,nd,h1,h2,hk=>by simp at h1 h2;subst h1;subst h2;show bindC a (_::P.zip vs) m p=_;unfold bindC;rw[LM λv hv=>(nodup_cons.mp nd).1 (of_mem_zip hv).1,iN hk];simp
 |p::P,w::vs,i+1,m,nd,h1,h2,hk=>by show bindC a _ m x=_;unfold bindC;exact LO (nodup_cons.mp nd).2 (by simpa using h1) (by simpa using h2) hk
noncomputable def start(N:C0)(vs:List V):St:=vs.map some++List.replicate (N.length - ↑10) none
noncomputable def RU(CX:Bx)(P:ŕ)(w:World)(K:U0)(mg:K0)(base:Heap)(N:C0)(qual:Str)(scope:Scope)(f:Addr)(cd:Ŕ)(A:Around)(outer:List Env)(s:œ)(H:Hp)(E:XK):Cx where
 prog:=P
 w:=w
 K:=K
 mg:=mg
 base:=base
 A:=A.deeper (envOfC qual scope ↑0 f cd)
 N:=N
 s₀:=s
 H₀:=H
 env:=envOfC qual scope ↑0 f cd
 outer:=outer
 stack:=envOfC qual scope ↑0 f cd::outer
 ex:=[]
 calm:=true
 fn:=λ_=>true
 pn:=[]
 xe:=λe s'=>wpAny (model P w) (A.deeper (envOfC qual scope ↑0 f cd)) (leaving (envOfC qual scope ↑0 f cd) e) (λ_ s''=>CX outer H s E e s'') (λe' s''=>CX outer H s E e' s'') s'
def RV{a:Scope}(h:a.names.lookup x=some .cell): ∃c,(cellsFrom n a.names []).lookup x=some c:=by exact î.mp (PySem.W.cellsFrom_some a.names n [] (.inl h))
theorem By{K:U0}
  (S:FnScope N ps scope) (hd:↑70) (e0:Env0 P w K mg base A outer s H) (hl:↑10=ps.length) (r:Vals vs us)
  (x:InCallC s ↑0 (bindL (envOfC qual scope ↑0 f cd).kindOf (ps.zip us) λ_=>none) (cellsFrom (↑0+1) scope.names []) (bindC (envOfC qual scope ↑0 f cd).kindOf (ps.zip us) λ_=>none) s1):
  Inv (RU CX P w K mg base N qual scope f cd A outer s H E) [] (start N vs) H s1:=by
 have F:=by have:=congrArg List.length S.pre;rw[lT]at this;omega
 refine x.done.d λB J g C=>?_;subst g;have j: ∀b:Addr,b∉(RU CX P w K mg base N qual scope f cd A outer s H E).ex:=λb z=>absurd (show b∈([]:B9)from z) (by simp)
 refine⟨⟨e0.mod,S.kind,rfl,rfl,à _,λy z c B d=>?_,λy m=>?_,λy c _ h=>?_,λ_=>hd,Around.frames_deeper e0.frames,.inr ⟨rfl,rfl⟩,λb z=>absurd z (j b),e0.bs,e0.bsz,λb _ _=>j b,λb z=>absurd z (j b),e0.funs,e0.frf⟩,
  rfl,e0.bare,Un.kept C,(Z3 _ x.toInCall.ns (λi y v B d L=>?_)),λy c h=>⟨_,x.cell y c h⟩,e0.hok.fresh (à _),λy c h=>?_,λp o=>absurd (show p∈([]:List _)from o) (by simp),e0.hok.kept C,?_⟩
 .exact name_of_addr x.apart (PySem.mem_of_lookup B) (PySem.mem_of_lookup d)
 .have m:=m;rcases m with m|m
  .exact RV m
  .exact absurd rfl (S.nofree _ (PySem.mem_of_lookup m))
 .exact le_of_lt (x.above y c (PySem.mem_of_lookup h))
 .have hi:i<vs.length:=by
   unfold start at d;by_cases hi:i<↑10
   .exact hi
   .rw[æ (by simpa using hi)]at d;rw[List.getElem?_replicate]at d;split at d<;>cases d
  have I:vs[i]? =some v:=by
   unfold start at d;rw[â (by simpa using hi),ó]at d
   cases e:vs[i]? with
   |none=>rw[e]at d;cases d
   |some a=>rw[e]at d;cases d;rfl
  refine(r.get I).a λu D G=>?_;have o:ps[i]? =some y:=by rw[<-S.pre,ı (by omega)];exact B
  have n:ps.Nodup:=by rw[<-S.pre];exact S.nd.sublist (List.take_sublist _ _)
  refine Z3 u G ?_;rcases S.par y (è o)with k|k
  .exact .inl ⟨k,LN n o D k⟩
  .obtain⟨c,e⟩:=RV k;refine .inr ⟨.inl k,c,e,?_⟩;have q:=x.cell y c e;rw[LO n o D (by show scope.names.lookup y≠_;rw[k];decide)]at q;exact q
 .exact e0.hok.fresh (le_of_lt (x.above y c (PySem.mem_of_lookup h)))
 .unfold start;show _=N.length;rw[lA,lM,đ]
  lia
def U3{K:U0}{kV:Ŕ}
     (lk:K.lookup f=some ⟨oc,od,.func (PySem.W.fnOf name qual params body scope dV kV doc pm an cdv ct),osl⟩) (hcd:PySem.W.codeIn K cdv qual=true) (S:FnScope N ps scope)
  (len: ∀vs H Q E,sp vs H Q E->↑10=ps.length)
  (hbody: ∀ A  j  s  H  vs  Q  E ,Room k (A.deeper (envOfC qual scope ↑0 f cdv))->sp vs H Q E->
   ∃t,PSs (RU CX P w K mg base N qual scope f cdv A j s H E) body t/\t {nx:=λ_ H'=>Q .non H',rt:=Q} (start N vs) H):
  FnOk P w K mg base CX (k+1) f (PySem.W.fnOf name qual params body scope dV kV doc pm an cdv ct) ps sp:=by
 refine⟨len,λA j s H z M vs Q E m h I r d=>?_⟩;have KX:=h.mod.kin.keeps λb o e=>(h.bs b o e).1
 have c: ∀y∈ps.zip M,scope.names.lookup y.1=some .local\/(scope.names.lookup y.1=some .cell/\((cellsFrom (↑0+1) scope.names []).lookup y.1).isSome=true):=λ⟨n,v⟩ L=>by
  rcases S.par n (of_mem_zip L).1 with q|q
  .exact .inl q
  .exact .inr ⟨q,PySem.W.cellsFrom_some _ _ _ (.inl q)⟩
 refine codeAny_call_function m.depth (KX _ _ lk) rfl S.co S.gen rfl (PySem.W.codeRec_of KX hcd) (I _ _ _ _ ?_);refine wpAny_newFunctionEnv_cells S.kind c λC G O x=>?_;subst G;refine⟨(h.mod.nolimit.keeps λb o e=>(h.bs b o e).1).keeps x.toInCall.keep,codeAny_func ?_⟩;refine(hbody A j s H vs Q E (m.deeper _) d).a λt F B=>?_;refine û (F [] O _ H _ (By S m.hd h (len _ _ _ _ d) r x) B) (λD p hs=>?_) λe p hs=>hs
 have fin: ∀{a:St}{H':Hp}{v:V}{u:Ŕ},Inv (RU CX P w K mg base N qual scope f cdv A j s H E) [] a H' p->RelV v u->Q v H'->CE j P w H s Q u p:=
  λ{a H' v u} J i q=>(Yk v H' ⟨J.os,J.bare,J.base,J.hok,i,q⟩)
 cases D with
 |ret u=>
  refine hs.g λv a H' g=>g.e λJ i q=>?_;exact fin J i q
 |next=>
  refine hs.d λa H' J q=>?_;exact fin (v:=V.non) J rfl q
 |brk=>
  refine hs.d λ_ _ _ q=>?_;exact False.elim q
 |cont=>
  refine hs.d λ_ _ _ q=>?_;exact False.elim q
section
variable{p pos:Pos}{id:String}
def tCB(r:List V->Hp->VK->Prop)(t:TA):TE:=λσ H Q=>t σ H λvs a=>r vs a Q
def RW(c:CallR X (.builtin id) r)(j:Gl X x)(hm:X.mg x=none)(hv:bootBuiltins x=some (.builtin id))(k:PA X (e::es) t)(hn:x≠"__name__":=by decide)(a:↑42=false:=by decide)
  (he:q8 X e es:=by rfl) (hpl:q9 X pos es:=by rfl):PE X ↑54 (tCB r t):=by
 rw[22];refine wpAny_Call_Name_kw (pY I j hm hv ?_ hn a);exact PyProof.Rows.callWith_builtin1 (wG (k pos pins s σ H _ I h) λn d ⟨vs,i,I1,b,m⟩=>c pins d σ i vs n Q I1 b m) he hpl
def DT(c:CallR X (.type T) r)(j:Gl X x)(hm:X.mg x=none)(hv:bootBuiltins x=some (.type T))(k:PA X (e::es) t)(hn:x≠"__name__":=by decide)(a:↑42=false:=by decide)
  (he:q8 X e es:=by rfl) (hpl:q9 X pos es:=by rfl):PE X ↑54 (tCB r t):=by
 rw[22];refine wpAny_Call_Name_kw (pY I j hm hv ?_ hn a);exact Ē (wG (k pos pins s σ H _ I h) λn d ⟨vs,i,I1,b,m⟩=>c pins d σ i vs n Q I1 b m) he hpl
end
end L2
namespace HT
open PySem PyProof.Rows
section
def cat_tup(p:IsTup s.heap t vs.toArray)(r:IsTup s.heap b ws.toArray)(hv:vs≠[])
  (h1:ws=[]->Q (.ref t) s) (h2:ws≠[]->Q (.ref ↑0) {s with heap:=s.heap.push {cls:=.type "tuple",data:=.seq (vs++ws).toArray}})
  (hsz:↑10+ws.length<=sizeLine):wpAny ↑6 A (binaryOp .Add (.ref t) (.ref b)) Q E s:=by
 rw[20];obtain⟨⟨cls,o,data,sl⟩,h,q,n,u⟩:=id p;obtain⟨⟨m,c,_,d⟩,a,i,k,j⟩:=id r;subst q u i j;have e:vs.toArray++ws.toArray=(vs++ws).toArray:=by simp
 refine g ?_;by_cases hw:ws=[]
 .exact concat_meets ⟨_,h,rfl⟩ ⟨_,a,rfl⟩ noFill_tuple_add seq_tuple_add PySem.F.slot_tuple_add PySem.F.entry_tuple_add (PySem.F.args_tuple_add_2 _ _)
   (tuple_addW1 t b vs.toArray ws.toArray n k o c sl d (by simpa using hv) (by simp[hw])) ⟨h,a,h1 hw⟩
 .refine concat_meets ⟨_,h,rfl⟩ ⟨_,a,rfl⟩ noFill_tuple_add seq_tuple_add PySem.F.slot_tuple_add PySem.F.entry_tuple_add (PySem.F.args_tuple_add_2 _ _)
   (tuple_addW2 t b vs.toArray ws.toArray n k o c sl d (by simpa using hv) (by simpa using hw) (by rw[sA0];exact hsz)) ⟨h,a,?_⟩
  rw[e];exact h2 hw
noncomputable def sIx(n d:Nat):Option Int->Nat
 |none=>d
 |some v=>if v<0 then(v+(n:Int)).toNat else min v.toNat n
theorem sIx_nat(n d k:Nat):sIx n d (some  k )=min k n:=by show(if(k:Int)<0 then((k:Int)+(n:Int)).toNat else min (k:Int).toNat n)=min k n;rw[iN #[0],Ĉ]
theorem sIx_le(n d)(a:d<=n)(o):sIx n d o<=n:=by
 cases o with
 |none=>exact a
 |some v=>
  show(if v<0 then(v+_).toNat else min v.toNat n)<=n;by_cases hv:v<0
  .rw[iP hv];lia
  .rw[iN hv];exact Nat.min_le_right _ _
theorem YW(v)(n d:Nat):(if v<0 then max (v+(n:Int)) 0 else min v  n )=((sIx n d (some v):Nat)):=by
 show _=(((if v<0 then(v+_).toNat else min v.toNat n):Nat):Int)
 by_cases hv:v<0
 .simp only[iP hv];lia
 .simp only[iN hv];lia
theorem WJ(i j:Nat):Builtin.Slice.slicePlaces  i   j  1=j - i:=by
 unfold Builtin.Slice.slicePlaces;have a:(1:Int)>0:=by lia
 split<;>lia
def HK(p:IsPart v o)(h:Q o s):wpAny ↑6 A (Builtin.Slice.slicePartIndex v) Q E s:=by
 cases p with
 |none=>exact slicePart_none h
 |int i t=>exact slicePart_int h
def sliceApplied_gen{lo:P0}{Q:Int×Int×Nat->œ->Prop}(hs:s.heap.IsSliceOf sl vl vu .none)(d:IsPart vl lo)(e:IsPart vu hi)
  (h:Q (((sIx n 0 lo:Nat)),1,sIx n n hi - sIx n 0 lo) s):wpAny ↑6 A (Builtin.Slice.sliceApplied (.ref sl) (pure  n )) Q E s:=by
 refine(id hs).b λj b c a=>?_;refine wB (wB (ò b a rfl (wB (ò b a rfl (wB (ò b a rfl (wP ?_)))))));refine wB (slicePart_none ?_);show wpAny _ _ _ _ _ s;refine wB (HK d (wB (HK e (wB (wP ?_)))));show wpAny _ _ (match Builtin.Slice.sliceAdjust lo hi 1 _ with |(lo,hi)=>pure (lo,_,Builtin.Slice.slicePlaces lo hi 1)) _ _ s;rw[(show Builtin.Slice.sliceAdjust lo hi 1  n =(((sIx n 0 lo):Int),((sIx n n hi):Int)) by
   have i: ¬((1:Int)<0):=by lia
   unfold Builtin.Slice.sliceAdjust;refine Prod.ext ?_ ?_
   .cases lo with
    |none=>rfl
    |some v=>exact YW v n 0
   .cases hi with
    |none=>rfl
    |some v=>exact YW v n n)];show wpAny _ _ (pure _) _ _ s;rw[WJ];exact wP h
theorem Fz(xs:B0)(i k:Nat):((List.range k).filterMap λ(m:Nat)=>xs[( i +(m:Int) * 1).toNat]?).toArray=((xs.toList.drop i).take k).toArray:=by
 have e:(λ(m:Nat)=>xs[((i:Int)+(m:Int) * 1).toNat]?)=λm=>xs[i+m]? :=by
  funext m;have:((i:Int)+(m:Int) * 1).toNat=i+m:=by lia
  rw[this]
 rw[e];have:=pick_run xs i k;rw[List.filterMap_map]at this;have a:((λx=>xs[x]?)∘λx=>i+x)=λm=>xs[i+m]? :=rfl;rw[a]at this;rw[this]
def getItem_tuple_cut{lo:P0}(b:IsTup s.heap t items)(hs:s.heap.IsSliceOf sl vl vu .none)(m:IsPart vl lo)(n:IsPart vu hi)
  (hw: ¬(sIx ↑45 0 lo=0/\sIx ↑45 ↑45 hi=↑45))
  (h:Q (.ref ↑0) {s with heap:=s.heap.push {cls:=.type "tuple",data:=.seq ((items.toList.drop (sIx ↑45 0 lo)).take (sIx ↑45 ↑45 hi - sIx ↑45 0 lo)).toArray}})
  (hsz:↑45<=sizeLine):wpAny ↑6 A (getItem (.ref t) (.ref sl)) Q E s:=by
 have a:sizeOk (.seq ((items.toList.drop (sIx ↑45 0 lo)).take (sIx ↑45 ↑45 hi - sIx ↑45 0 lo)).toArray):=by show((items.toList.drop _).take _).toArray.size<=sizeLine;rw[sA0,lT,ą,ï];omega
 refine(id hs).b λk e d j=>?_;have i:s.TypeIs (.ref sl) "slice":=(Z3 k e d)
 unfold getItem
 try with_reducible refine ù ?_
 first |refine wB _|skip
 refine wB (wpAny_sequenceKey b.typeIs ↑11 ?_)
 refine wB (í b.typeIs Ĭ
  (ë Ĭ b.typeIs entry_tuple_getitem ?_ (args_tuple_getitem _ _)))
 show wpAny _ _ (Builtin.Tuple.tupleItemsOf _ >>= _) _ _ s;refine wB (tupleItemsOf_ b ?_);refine wB (Ĥ i ?_);refine wB (sliceApplied_gen hs m n ?_);have c: ¬((((sIx ↑45 0 lo:Nat):Int)==0&&(1:Int)==1&&(sIx ↑45 ↑45 hi - sIx ↑45 0 lo)==↑45)=true):=by intro q;rw[aE,aE]at q;have p:(_:Int)=0:=eq_of_beq q.1.1;have o:=eq_of_beq q.2;exact hw ⟨by omega,by omega⟩
 rw[21];rw[iN c,Fz]
 first
  |exact wB (ü (wP (Z3 _ rfl (wP h))) a)
  |exact wB _
  |exact wB _
  |exact wB _
end
end HT
namespace L2
open PySem PySem.Spec PyProof.Rows
abbrev TO:=St->Hp->(Option Int->Hp->Prop)->Prop
def PO(X:Cx)(e:Option Expr)(t:TO):Prop:=
 ∀(pins:L1)(s:œ)(σ:St)(H:Hp)(Q:Option Int->Hp->Prop),Inv X pins σ H s->t σ H Q->
  wpAny ↑4 X.A (evalPart e X.env) (λu a=> ∃o H',Inv X pins σ H' a/\IsPart u o/\Q o H') X.xe s
def Mx:TO:=λ_ H Q=>Q none H
def U4(t:TE):TO:=λσ H Q=>t σ H λx a=> ∃i,x=.int i/\Q (some i) a
section
variable{lo hi:Option Expr}{p2:Pos}
def Na(h:PE X e te):PO X (some e) (U4 te):=by intro pins s σ H Q I hw;refine wG (h pins s σ H _ I hw) λu d ⟨x,b,I1,a,c⟩=>?_;refine c.a λi g q=>?_;subst g;obtain⟨t,rfl⟩:=a;exact Z0 _ b I1 (.int i t) q
def SlR(X:Cx)(r:V->Option Int->Option Int->Hp->VK->Prop):Prop:=
 ∀(pins:L1)(s:œ)(σ:St)(H:Hp)(x:V)(v a b:Ŕ)(lo hi:P0)(sl:Addr)(Q:VK),Inv X pins σ H s->RelV x v->s.heap.IsSliceOf sl a b .none->IsPart a lo->IsPart b hi->r x lo hi H Q->
  ∃T id,typeLookup (.type T) "__getitem__"=pure (some (.builtin id))/\s.TypeIs v T/\wpAny ↑4 X.A (getItem v (.ref sl)) (EP X pins σ Q) X.xe s
def SlR.or(h:SlR X r)(h':SlR X r'):SlR X (λx lo hi H Q=>r x lo hi H Q\/r' x lo hi H Q):=by
 intro pins s σ H x v b e lo hi sl Q I a hs c d q;rcases q with q|q
 .exact h pins s σ H x v b e lo hi sl Q I a hs c d q
 .exact h' pins s σ H x v b e lo hi sl Q I a hs c d q
def tSl(r:V->Option Int->Option Int->Hp->VK->Prop)(b:TE)(d a:TO):TE:=λσ H Q=>b σ H λx c=>d σ c λl h=>a σ h λu e=>r x l u e Q
def Ga(C:SlR X r)(G:PE X e te)(i:PO X lo tl)(E:PO X hi th):PE X (.Subscript e (.Slice lo hi none p2) pos) (tSl r te tl th):=by rw[22];refine Subscript_ (wG (G pins s σ H _ I h) λv o ⟨x,p,I1,j,L⟩=>?_);refine wpAny_Slice (wG (i pins o σ p _ I1 L) λc w ⟨l,K,k,n,J⟩=>wG (E pins w σ K _ k J) λd a ⟨u,B,y,F,m⟩=>?_);refine wP ?_;refine(C pins {a with heap:=a.heap.push {cls:=.type "slice",data:=.fields #[c,d,.none]}} σ B x v c d l u ↑14 Q (y.kept λb M q=>hP0 _ q) j (Heap.IsSliceOf.new ..) n F m).c λT id hT D z=>?_;show wpAny _ X.A _ _ X.xe {a with heap:=a.heap.push {cls:=.type "slice",data:=.fields #[c,d,.none]}};exact tail_any D hT z (by with_unfolding_all rfl)
def Bz(xs:List V)(lo hi:P0):List V:=(xs.drop (HT.sIx ↑8 0 lo)).take (HT.sIx ↑8 ↑8 hi - HT.sIx ↑8 0 lo)
theorem FC(xs)(lo hi):(Bz xs lo hi).length<=xs.length:=by
 unfold Bz;rw[lT,ą]
 lia
def rSlT(K:U0):V->Option Int->Option Int->Hp->VK->Prop:=λx lo hi H Q=> ∃a xs,x=.ref a/\SqT K H a xs/\
 ¬(HT.sIx ↑8 0 lo=0/\HT.sIx ↑8 ↑8 hi=↑8)/\ ∀p,H p=none->Q (.ref p) (xV H p (.tup (Bz xs lo hi)))
def Wh:SlR X (rSlT X.K):=by
 intro pins s σ H x v o u lo hi sl Q I k hs m n h;refine h.k λa xs a j hw q=>?_;subst a;subst k;refine(I.tuple j).b λd r e i=>?_;have c:d.toArray.size=xs.length:=by rw[sA0];exact r.length.symm
 refine Z0 _ _ PyProof.Rows.slot_tuple_getitem.lookup e.typeIs ?_;refine HT.getItem_tuple_cut e hs m n (by refine qq c ?_;exact hw) ?_ (by rw[c];exact i);refine qq c ?_;refine Z0 (.ref ↑0) _ (I.laid (λb p q=>hP0 _ q) (à _) ?_) rfl (q _ ↑25);exact⟨ô (FC xs lo hi) i,_,(r.drop _).take _,IsTup.new _ _⟩
def U5(K:U0):R2:=λx y H Q=> ∃a b xs ys,x=.ref a/\y=.ref b/\SqT K H a xs/\SqT K H b ys/\xs≠[]/\↑8+↑40<=sizeLine/\
 (ys=[]->Q (.ref a) H)/\(ys≠[]-> ∀p,H p=none->Q (.ref p) (xV H p (.tup (xs++ys))))
def Vals.nil_iff(r:Vals xs us):us=[]↔xs=[]:=by
 cases r with
 |nil=>simp
 |cons _ _=>simp
def Nb:OpR X (binaryOp .Add) (U5 X.K):=by intro pins s σ H x y v u Q I n m h;refine h.j λa b xs ys g=>g.u λC D p r j e k A=>?_;subst C;subst D;cases n;cases m;refine(I.tuple p).b λo d p1 _=>?_;refine(I.tuple r).b λi c p2 _=>?_;refine HT.cat_tup p1 p2 (λz=>j (d.nil_iff.mp z)) (λz=>(Z0 (.ref a) H I rfl (k (c.nil_iff.mp z)))) (λz=>?_) (by rw[<-d.length, <-c.length];exact e);refine Z0 (.ref ↑0) _ (I.laid (λb B q=>hP0 _ q) (à _) ?_) rfl (A (λw=>z (c.nil_iff.mpr w)) _ ↑25);exact⟨by rw[lA];exact e,_,d.append c,IsTup.new _ _⟩
end
noncomputable def NW(n:Nat)(i:Int):Option Nat:=if 0<=i then(if i<n then some i.toNat else none)else if -(n:Int)<=i then some (i+n).toNat else none
def uY{α:Type}(xs:List α)(i:Int):Option α:=(NW ↑8 i).bind λj=>xs[j]?
theorem NY(h:NW n i=some j):seqIndex? i n=some j/\j<n/\ - n <=i/\i<n:=by
 unfold NW at h;by_cases b:0<=i
 .rw[iP b]at h;by_cases a:i<n
  .rw[iP a]at h;exact⟨by rw[seqIndex_of b a,(ä h)],by lia,by lia,a⟩
  .rw[iN a]at h;cases h
 .rw[iN b]at h;by_cases a: -(n:Int)<=i
  .rw[iP a]at h;exact⟨by rw[seqIndex_neg #[0] a,(ä h)],by lia,a,by lia⟩
  .rw[iN a]at h;cases h
def NZ(h:uY xs i=some v): ∃j,seqIndex? i ↑8=some j/\xs[j]? =some v/\j<↑8/\ - ↑8 <=i/\i<xs.length:=by
 unfold uY at h
 cases e:NW ↑8 i with
 |none=>rw[e]at h;cases h
 |some j=>
  rw[e]at h;refine(NY e).h λb c d a=>?_;exact⟨j,b,h,c,d,a⟩
theorem atI_nat{j:Nat}(h:xs[j]? =some v):uY xs  j =some v:=by
 have a:=(gS.mp h).1;have e:NW ↑8 (j:Int)=some j:=by unfold NW;rw[iP #[0],iP #[0]];simp
 unfold uY;rw[e];exact h
def GN(b:Expr):Prop:= ∀o i,subscripted b false o i=operate [o,i] (getItem o i)
def IxR(X:Cx)(r:R2):Prop:=
 ∀(b a:Expr)(pins:L1)(s:œ)(σ:St)(H:Hp)(x y:V)(v u:Ŕ)(Q:VK),Inv X pins σ H s->RelV x v->RelV y u->r x y H Q->
  subscripted a false v u=operate [v,u] (getItem v u)->wpAny ↑4 X.A (subscriptTail b a v u) (EP X pins σ Q) X.xe s
def Gb(X:Cx)(id:String)(r:V->List V->Hp->VK->Prop):Prop:=
 ∀(pins:L1)(s:œ)(σ:St)(H:Hp)(x:V)(xs:List V)(v:Ŕ)(us:A0)(Q:VK),Inv X pins σ H s->RelV x v->Vals xs us->r x xs H Q->
  wpAny ↑4 X.A (call (.builtin id) (v::us)) (EP X pins σ Q) X.xe s
section
variable{a b:Expr}
def IxR.or(h:IxR X r)(h':IxR X r'):IxR X (λx y H Q=>r x y H Q\/r' x y H Q):=by
 intro b a pins s σ H x y v u Q I c d q hs;rcases q with q|q
 .exact h b a pins s σ H x y v u Q I c d q hs
 .exact h' b a pins s σ H x y v u Q I c d q hs
def U7(K:U0):R2:=λx y H Q=> ∃p xs i v,x=.ref p/\y=.int i/\SqL K H p xs/\uY xs i=some v/\Q v H
def U8(K:U0):R2:=λx y H Q=> ∃p xs i v,x=.ref p/\y=.int i/\SqT K H p xs/\uY xs i=some v/\Q v H
def U9:R2:=λx y H Q=> ∃z i c,x=.str z/\y=.int i/\z.length<=sizeLine/\uY z.cps.toList i=some c/\Q (.str ⟨#[c]⟩) H
theorem Nc:IxR X (U7 X.K):=by
 intro d e pins s σ H x y v u Q I D C h hs;refine h.o λp xs i z p N B F q=>?_;subst p;subst N;cases D;refine V0 λO=>?_;obtain⟨t,rfl⟩:=C;refine(I.list B).b λk r c L=>?_;refine(NZ F).elim λj g=>g.n λa E M G J=>?_;refine(r.get E).a λw o b=>?_;have A:=r.length;have hn:=DS;have fin:EP X pins σ Q w s:=(Z0 z H I b q)
 refine O ?_;by_cases n:0<=i
 .have m:=by rw[seqIndex_of n J]at a;exact ä a
  exact item_listR c.isList n #[0] (by rw[m];simpa using o) fin hs
 .have m:(i+(k.toArray.size:Int)).toNat=j:=by rw[seqIndex_neg #[0] G]at a;rw[sA0, <-A];exact ä a
  exact subscriptTail_builtinR c.isList.typeIs slot_list_getitem.lookup
   (wpAny_getItem_list_neg c.isList #[0] (by rw[sA0]<;>lia) #[0] (by rw[m];simpa using o) ⟨rfl,fin⟩) hs
theorem ix_tup:IxR X (U8 X.K):=by
 intro b c pins s σ H x y v u Q I n m h hs;refine V0 λJ=>?_;refine h.o λp xs i z j p k B q=>?_;subst j;subst p;subst n;obtain⟨t,rfl⟩:=m;refine(I.tuple k).b λA r d D=>?_;refine(NZ B).elim λj g=>g.n λe o F E G=>?_;refine(r.get o).a λw C a=>?_;have hn:=DS
 refine J ?_;exact subscriptTail_builtinR d.typeIs slot_tuple_getitem.lookup
  (getItem_tuple d #[0] #[0] (by refine qq sA0 (qq (((r.length)).symm) ?_);exact e) (by simpa using C) ⟨rfl,((Z0 z H I a q))⟩) hs
theorem ix_str:IxR X U9:=by
 intro a b pins s σ H x y v u Q I m k h hs;refine V0 λD=>?_;refine h.i λz i c j C A o q=>?_;subst j;subst C;obtain⟨t,rfl⟩:=m;obtain⟨w,rfl⟩:=k;refine(NZ o).elim λj g=>g.n λd n B p r=>?_;have e:z.cps.toList.length=z.length:=by simp[Str.length]
 rw[e]at d p r;have hn:=DS;refine D ?_;exact tail_any (typeIs_str s z t) slot_str_getitem.lookup (getItem_str (by rw[(dF0 #[0]),(dF0 #[0]),Bool.or_false]) (by rw[d];simpa using n) (Z0 (.str ⟨#[c]⟩) H (I.tok _) ⟨_,rfl⟩ q)) hs
def rIx(K:U0):R2:=λx y H Q=>U7 K x y H Q\/U8 K x y H Q\/U9 x y H Q
def WK(a:A0)(n j)(u):Obj.mapSeq (·.setIfInBounds j u) {cls:=.type "list",data:=.seq a.toArray n}={cls:=.type "list",data:=.seq (a.set j u).toArray n}:=by simp[Obj.mapSeq]
def Inv.lst(I:↑2)(h:H p=some (.lst xs)):
  ∃(j:A0)(n:Nat),Vals xs j/\s.heap.get? p=some {cls:=.type "list",data:=.seq j.toArray n}/\↑8<=sizeLine:=by
 obtain⟨z,j,n,r,e⟩:=I.hok p _ h;exact Z0 j n r e z
def Inv.lstUpd{a:A0}(I:↑2)(h:H p=some (.lst xs))
  (ho:s.heap.get? p=some {cls:=.type "list",data:=.seq a.toArray n}) (hf:f {cls:=.type "list",data:=.seq a.toArray n}={cls:=.type "list",data:=.seq its'.toArray n'}) (r:Vals ys its') (hz:↑40<=sizeLine) (t):
  Inv X pins σ (xV H p (.lst ys)) {s with heap:=s.heap.update p f,toks:=t}:=by
 have e:(s.heap.update p f).get? p=some {cls:=.type "list",data:=.seq its'.toArray n'}:=by rw[ķ f ho (by rw[hf]<;>rfl),hf]
 refine I.write (by rw[h];trivial) (.inl rfl) (λb u c q=>(þ _ _ (Ne.symm c)).trans q) ⟨_,e⟩ ?_;exact⟨hz,its',n',r,e⟩
def V1:V->V->V->Hp->(Hp->Prop)->Prop:=λo i v H Q=> ∃p xs k j,o=.ref p/\i=.int k/\H p=some (.lst xs)/\NW ↑8 k=some j/\Q (xV H p (.lst (xs.set j v)))
theorem OA(lo hi)(n):(sliceBounds lo hi none n).1=((HT.sIx n 0 lo:Nat))/\(sliceBounds lo hi none n).2.1=((HT.sIx n n hi:Nat))/\(sliceBounds lo hi none n).2.2=1:=by
 refine⟨?_,?_,rfl⟩
 .cases lo with
  |none=>simp[sliceBounds,HT.sIx]
  |some i=>
   simp only[sliceBounds,HT.sIx,Option.getD_none,if_true];by_cases h:i<0
   .simp only[h,if_true]<;>lia
   .simp only[h,iF]<;>lia
 .cases hi with
  |none=>simp[sliceBounds,HT.sIx]
  |some i=>
   simp only[sliceBounds,HT.sIx,Option.getD_none,if_true];by_cases h:i<0
   .simp only[h,if_true]<;>lia
   .simp only[h,iF]<;>lia
theorem KE(a:A0)(lo hi):slicePick a.toArray lo hi none=((a.drop (HT.sIx ↑67 0 lo)).take (HT.sIx ↑67 ↑67 hi - HT.sIx ↑67 0 lo)).toArray:=by refine(OA lo hi a.toArray.size).e λb c d=>?_;unfold slicePick;rw[b,c,d];simp only[sliceRange_one,pick_run]<;>rfl
def rSlL(K:U0):V->Option Int->Option Int->Hp->VK->Prop:=λx lo hi H Q=> ∃a xs,x=.ref a/\SqL K H a xs/\ ∀p,H p=none->Q (.ref p) (xV H p (.lst (Bz xs lo hi)))
theorem Nd:SlR X (rSlL X.K):=by intro pins s σ H x v o u lo hi sl Q I i hs j k h;refine h.c λa xs a e q=>?_;subst a;subst i;refine(I.list e).b λm r d n=>?_;have c:=r.length;refine Z0 _ _ slot_list_getitem.lookup d.isList.typeIs ?_;refine wpAny_getItem_list_slice d.isList hs j k .none (by simp) ?_ (by rw[sA0]<;>lia);rw[KE, <-c];refine Z0 (.ref ↑0) _ (I.laid (λb p q=>hP0 _ q) (à _) ?_) rfl (q _ ↑25);exact⟨ô (FC xs lo hi) n,_,0,(r.drop _).take _,á _ rfl⟩
noncomputable def oY:V->Bool
 |.non=>true
 |.bl _=>true
 |.int _=>true
 |.str _=>true
 |_=>false
noncomputable def Nf:V->V->Bool
 |.non,.non=>true
 |.bl a,.bl b=>a==b
 |.bl a,.int b=>(if a then 1 else 0)==b
 |.int a,.bl b=>a==(if b then 1 else 0)
 |.int a,.int b=>a==b
 |.str a,.str b=>a==b
 |_,_=>false
def Wj(h:RelV y u)(c:RelV x v)(i:oY y=true)(e:oY x=true):SeqAt.EqAt A s u v (Nf y x):=by
 cases y with
 |non=>
  cases h
  cases x with
  |non=>subst c;exact SeqAt.EqAt.same _
  |bl b=>subst c;exact SeqAt.EqAt.none_bool b
  |int b=>obtain⟨t,rfl⟩:=c;exact SeqAt.EqAt.none_int b t
  |str b=>obtain⟨t,rfl⟩:=c;exact SeqAt.EqAt.none_str b t
  |_=>exact absurd e xF0
 |bl a=>
  subst h
  cases x with
  |non=>subst c;exact SeqAt.EqAt.bool_none a
  |bl b=>subst c;exact SeqAt.EqAt.bool_bool a b
  |int b=>obtain⟨t,rfl⟩:=c;exact SeqAt.EqAt.bool_int a b t
  |str b=>obtain⟨t,rfl⟩:=c;exact SeqAt.EqAt.bool_str a b t
  |_=>exact absurd e xF0
 |int a=>
  obtain⟨d,rfl⟩:=h
  cases x with
  |non=>subst c;exact SeqAt.EqAt.int_none a d
  |bl b=>subst c;exact SeqAt.EqAt.int_bool a d b
  |int b=>obtain⟨t,rfl⟩:=c;exact SeqAt.EqAt.int_int a d b t
  |str b=>obtain⟨t,rfl⟩:=c;exact SeqAt.EqAt.int_str a d b t
  |_=>exact absurd e xF0
 |str a=>
  obtain⟨d,rfl⟩:=h
  cases x with
  |non=>subst c;exact SeqAt.EqAt.str_none a d
  |bl b=>subst c;exact SeqAt.EqAt.str_bool a d b
  |int b=>obtain⟨t,rfl⟩:=c;exact SeqAt.EqAt.str_int a d b t
  |str b=>obtain⟨t,rfl⟩:=c;exact SeqAt.EqAt.str_str a d b t
  |_=>exact absurd e xF0
 |_=>exact absurd i xF0
theorem OE:CallR X (.builtin "len") (λxs H Q=> ∃z,xs=[.str z]/\z.length<=sizeLine/\Q (.int z.length) H):=by intro pins s σ H xs a Q I r h;refine h.b λz c b q=>?_;subst c;obtain⟨u,rfl,t,rfl⟩:=vals1 r;have hn:=DS;exact len_str #[0] (Z0 (.int z.length) H (I.tok _) ⟨_,rfl⟩ q)
def CallR.or(h:CallR X f r)(h':CallR X f r'):CallR X f (λxs H Q=>r xs H Q\/r' xs H Q):=by
 intro pins s σ H xs b Q I a q;rcases q with q|q
 .exact h pins s σ H xs b Q I a q
 .exact h' pins s σ H xs b Q I a q
theorem OG:CallR X (.type "list") (λxs H Q=> ∃p ys,xs=[.ref p]/\(SqL X.K H p ys\/SqT X.K H p ys)/\ ∀l,H l=none->Q (.ref l) (xV H l (.lst ys))):=by
 intro pins s σ H xs B Q I r h;refine h.c λp ys g i q=>?_;subst g;refine(vals1 r).a λu u A=>?_;subst u;subst A
 have fin: ∀(a:A0),Vals ys a->↑40<=sizeLine-> ∀(h':Heap)(c:Nat),_->
   h'.get? ↑0=some {cls:=.type "list",dict:=none,data:=.seq a.toArray c,slots:=#[]}->EP X pins σ Q _ {s with heap:=h'}:=λa b j h' c d e=>
  (Z0 (.ref ↑0) _ (I.laid d (à _) (show ObjOk X.prog X.w _ h' _ (.lst ys)from⟨j,a,c,b,e⟩)) rfl (q _ ↑25))
 rcases i with i|i
 .obtain⟨a,b,m,j⟩:=I.list i;have k:=b.length;obtain⟨o,v,y,n,z⟩:=m.isList;exact call_list_seq p (.inl rfl) v y z (λh' c d e=>fin a b j h' c d e) (by simp only[sA0]<;>lia)
 .obtain⟨a,b,m,j⟩:=I.tuple i;have k:=b.length;obtain⟨o,v,y,n,z⟩:=m;exact call_list_seq p (.inr rfl) v y z (λh' c d e=>fin a b j h' c d e) (by simp only[sA0]<;>lia)
theorem KF:CallR X (.type "tuple") ↑63:=by
 intro pins s σ H xs v Q I r h;obtain⟨p,ys,rfl,h⟩:=h;refine(vals1 r).a λu b m=>?_;subst b;subst m;rcases h with⟨hq,q⟩|⟨hq,q⟩
 .refine(I.list hq).b λa d c j=>?_;have i:=d.length;refine call_tuple_list c.isList (λh' k=>?_) (by simp only[sA0]<;>lia);have I1:Inv X pins σ H {s with heap:=h'}:=I.kept k
  have n:Inv X pins σ (xV H h'.objs.size (.tup ys)) {s with heap:=h'.push {cls:=.type "tuple",data:=.seq a.toArray}}:=
   I1.laid (λb o e=>hP0 _ e) (à _) (⟨j,a,d,IsTup.new _ _⟩)
  exact Z0 (.ref h'.objs.size) _ n rfl (q _ (I1.hok.fresh (à _)))
 .refine(I.tuple hq).b λa d c j=>?_;exact call_tuple_same c (Z0 (.ref p) H I rfl q)
def tyV(K:U0)(T:String)(x:V)(H:Hp):Prop:=match x with
 |.str _=>T="str"
 |.int _=>T="int"
 |.ref p=>(T="list"/\ ∃xs,SqL K H p xs)\/(T="tuple"/\ ∃o,K.lookup p=some o/\o.cls=.type "tuple"/\o.dict=none)\/
   (T="dict"/\((∃a,H p=some (.dK a))\/ ∃a,H p=some (.dT a)))\/(T="set"/\ ∃S n,H p=some (.set S n))
 |_=>False
def Wm(I:↑2)(r:RelV x v)(d:tyV X.K T x H):
  s.TypeIs v T/\ ∀a,v=.ref a-> ∃ob,s.heap.get? a=some ob/\ob.dict=none:=by
 cases x with
 |str z=>
  obtain⟨t,rfl⟩:=r;subst d;exact⟨typeIs_str s z t,λ_ e=>nomatch e⟩
 |int i=>
  obtain⟨t,rfl⟩:=r;subst d;exact⟨typeIs_int s i t,λ_ e=>nomatch e⟩
 |ref p=>
  subst r;rcases d with⟨rfl,xs,hq⟩|⟨rfl,o,hk,hc,j⟩|⟨rfl,hk⟩|⟨rfl,S,n,hk⟩
  .refine(I.list hq).b λm _ k _=>?_;refine⟨k.isList.typeIs,λa e=>?_⟩;cases e;refine k.k λo n e c j _=>?_;exact⟨o,e,j⟩
  .refine⟨⟨o,I.kIn p o hk,hc⟩,λa e=>?_⟩;cases e;exact⟨o,I.kIn _ o hk,j⟩
  .have z: ∃o,s.heap.get? p=some o/\o.ExactDict:=by
    rcases hk with⟨kvs,hk⟩|⟨kvs,hk⟩
    .obtain⟨_,_,_,_,o,_,_,e,b,_⟩:=I.hok p _ hk;exact⟨o,e,b⟩
    .obtain⟨_,_,_,_,o,_,_,e,b,_⟩:=I.hok p _ hk;exact⟨o,e,b⟩
   obtain⟨o,e,b⟩:=z;refine⟨⟨o,e,b.1⟩,λa h=>?_⟩;cases h;exact⟨o,e,b.2.1⟩
  .refine(I.hok p _ hk).j λo _ _ _ g=>g.e λe b _=>?_;refine⟨⟨o,e,b.1⟩,λa h=>?_⟩;cases h;exact⟨o,e,b.2.1⟩
 |_=>exact False.elim d
def tBM(K:U0)(T:String)(r:V->List V->Hp->VK->Prop)(b:TE)(t:TA):TE:=λσ H Q=>b σ H λx a=>tyV K T x a/\t σ a λxs c=>r x xs c Q
variable{apos cpos:Pos}{id:String}
def V2(n:PlainAttrs T)(a:Slot T name id)(b:↑47)(hm:Gb X id r)(A:PE X o to)(y:PA X (e::es) t)
  (hbase:attributeBase o name X.env (eval o X.env)=eval o X.env:=by rfl)
  (hfew:((backTo cpos ↑38).all (λx=>!x.1)&&(backToKw cpos ↑48).all (λx=>x.1.isSome)
   &&decide ↑3)=true:=by rfl)
  (hline:(apos.endLine==cpos.line)=true:=by rfl) (hs:q8 X e es:=by rfl) (hplain:(backTo cpos (starEach es X.env)).any (·.1)=false:=by rfl):
  PE X (.Call (.Attribute o name apos) (e::es) [] cpos) (tBM X.K T r to t):=by
 rw[22];refine wpAny_Call_method_late hbase hfew hline rfl (wG (A pins s σ H _ I h) λv D ⟨x,q,I1,c,p,B⟩=>?_);obtain⟨i,j⟩:=Wm I1 c p;refine Yk T id ⟨n,a,b,i,j,?_⟩;have d:=y cpos pins D σ q _ I1 B;rw[hs]at d ⊢;refine Calls.callWith_builtin (by show(false || (backTo cpos _).any (·.1))=false;rw[hplain]<;>rfl) (Calls.evalArgs_plain ?_);exact wG d λC u ⟨vs,z,k,m,w⟩=>hm pins u σ z x vs v C Q k c m w
end
def MtM(X:Cx)(id:String)(r:V->List V->Hp->VK->Prop):Prop:=
 ∀(pins:L1)(s:œ)(σ:St)(H:Hp)(x:V)(xs:List V)(v:Ŕ)(us:A0)(Q:VK),Inv X pins σ H s->RelV x v->Vals xs us->r x xs H Q->
  wpAny ↑4 X.A (call (.builtin id) (v::us)) (EP X pins σ Q) X.xe s
def Vals.one: ∀{x}{us},Vals [x] us-> ∃u,us=[u]/\RelV x u
 |_,_,.cons r .nil=>⟨_,rfl,r⟩
theorem Vals.zero: ∀{us},Vals [] us->us=[]
 |_,.nil=>rfl
theorem Vals.eraseIdx: ∀{xs}{us} i ,Vals xs us->Vals (xs.eraseIdx i) (us.eraseIdx i)
 |_,_,_,.nil=>.nil
 |_,_,0,.cons _ t=>t
 |_,_,i+1,.cons r t=>.cons r (Vals.eraseIdx i t)
theorem Vals.rep(h:Vals xs us): ∀k:Nat,Vals (List.replicate k xs).flatten (List.replicate k us).flatten
 |0=>.nil
 |k+1=>by exact Vals.append h (Vals.rep h k)
theorem LP{α:Type}: ∀(l:List α) i ,(l.eraseIdx i).length<=l.length
 |[],_=>à _
 |_::_,0=>le_succ _
 |_::r,i+1=>Nat.succ_le_succ (LP r i)
theorem foldl_rep(its): ∀ k (j:A0),
  List.foldl (λq m=>q++m) j.toArray (List.replicate k its.toArray)=(j++(List.replicate k its).flatten).toArray
 |0,j=>by simp
 |k+1,j=>by
  have e:j.toArray++its.toArray=(j++its).toArray:=by simp
  have a:(j++its)++(List.replicate k its).flatten=j++(List.replicate (k+1) its).flatten:=by rw[ē,flatten_cons,aA]
  rw[<-a, <-foldl_rep its k _, <-e,ē,ŏ]
section
def Inv.lset{a:A0}(I:↑2)(b:H l=some (.lst xs))
  (e:s.heap.get? l=some {cls:=.type "list",data:=.seq a.toArray n}) (hf:f a.toArray=its'.toArray) (hv:Vals ys its') (hz:↑40<=sizeLine):
  Inv X pins σ (xV H l (.lst ys)) {s with heap:=s.heap.update l (Obj.mapSeq f),toks:=t'}:=by
 have q:=PySem.IsL.update e f;rw[hf]at q;refine I.write (by rw[b];exact trivial) (.inl rfl) (λh u d c=>(þ s.heap _ (Ne.symm d)).trans c) ⟨_,q⟩ ?_;exact⟨hz,its',_,hv,q⟩
def Inv.lnew(I:↑2)(hv:Vals ys its)(hz:↑40<=sizeLine):
  Inv X pins σ (xV H ↑0 (.lst ys)) {s with heap:=s.heap.push {cls:=.type "list",data:=.seq its.toArray},toks:=t'}:=
 I.laid (λ_ _ q=>hP0 _ q) (à _) ⟨hz,its,0,hv,á _ rfl⟩
def Inv.fresh(I:↑2):H ↑0=none:=I.hok.fresh (à _)
def Inv.lstM(I:↑2)(a:H l=some (.lst xs)):↑8<=sizeLine/\ ∃(j:A0)(n:Nat),Vals xs j/\↑8=↑44/\s.heap.get? l=some {cls:=.type "list",data:=.seq j.toArray n}:=by obtain⟨z,j,n,r,e⟩:=I.hok l _ a;exact⟨z,j,n,r,r.length,e⟩
theorem Gc(h:n<=sizeLine):Builtin.List.listTooLong n=false:=by exact dF0 #[0]
end
section
def YX:V->List V->Hp->VK->Prop:=λx vs H Q=> ∃l xs y,x=.ref l/\vs=[y]/\H l=some (.lst xs)/\↑8<sizeLine/\Q .non (xV H l (.lst (xs++[y])))
def Gd:V->List V->Hp->VK->Prop:=λx vs H Q=> ∃l xs i k y,x=.ref l/\vs=[.int i]/\H l=some (.lst xs)/\ -(2 ^ 63)<=i/\i<2 ^ 63/\seqIndex? i ↑8=some k/\xs[k]? =some y/\Q y (xV H l (.lst (xs.eraseIdx k)))
def rCat:R2:=λx y H Q=> ∃l b xs a,x=.ref l/\y=.ref b/\H l=some (.lst xs)/\H b=some (.lst a)/\↑8+↑67<=sizeLine/\ ∀p,H p=none->Q (.ref p) (xV H p (.lst (xs++a)))
theorem Wn:OpR X (binaryOp .Add) rCat:=by
 intro pins s σ H x y v u Q I k j h;refine h.j λl b xs D g=>g.f λF G o m C q=>?_;subst F;subst G;cases k;cases j;refine V0 λJ=>?_;obtain⟨z,c,n,r,A,e⟩:=I.lstM o;obtain⟨B,a,E,p,w,d⟩:=I.lstM m;refine J ?_;refine PySem.P.add_list e d ?_ (by rw[sA0,sA0];lia);have i:c.toArray++a.toArray=(c++a).toArray:=by simp
 rw[i];exact Z0 (.ref _) _ (I.lnew (r.append p) (by rw[lA];lia)) rfl (q _ I.fresh)
def rRep:R2:=λx y H Q=> ∃l k xs,x=.ref l/\y=.int k/\H l=some (.lst xs)/\ -(2 ^ 63)<=k/\k<2 ^ 63/\↑8 * k.toNat<=sizeLine/\
 ∀p,H p=none->Q (.ref p) (xV H p (.lst (List.replicate k.toNat xs).flatten))
def len_rep{α:Type}(xs:List α)(k):(List.replicate k xs).flatten.length=k * xs.length:=by
 induction k with
 |zero=>simp
 |succ k ih=>rw[ē,flatten_cons,lA,ih,Nat.succ_mul,Nat.add_comm]
theorem Wo:OpR X (binaryOp .Mult) rRep:=by
 intro pins s σ H x y v u Q I K E h;refine h.g λl k xs g=>g.s λM N L C J A q=>?_;subst M;subst N;cases K;refine V0 λO=>?_;obtain⟨t,rfl⟩:=E;obtain⟨z,b,n,r,B,e⟩:=I.lstM L;have i:b.toArray.size * k.toNat<=sizeLine:=by rw[sA0, <-B];exact A
 have d: ¬b.toArray.size * k.toNat>(2 ^ 63 - 1) / 8:=by
  have:(sizeLine:Nat)<=(2 ^ 63 - 1) / 8:=by decide
  lia
 have j: ¬(!Builtin.List.listFitsIndex k)=true:=by rw[fitsIndex_both C J];exact xF0
 have c: ¬Builtin.List.listTooLong (b.toArray.size * k.toNat)=true:=by rw[Gc i];exact xF0
 have o:List.foldl (λp w=>p++w) #[] (List.replicate (if b.toArray.isEmpty=true then 0 else k.toNat) b.toArray)=(List.replicate k.toNat b).flatten.toArray:=by
  have D: ∀m:Nat,List.foldl (λp w=>p++w) #[] _=(List.replicate m b).flatten.toArray:=λm=>by have:=foldl_rep b m [];exact this
  rw[D]
  cases b with
  |nil=>simp
  |cons a r'=>rw[iN (by simp)]
 refine O ?_;refine wpAny_binaryOp_repeat_ref ↑11 ⟨_,e,rfl⟩ (λG=>typeIs_int G k t) noFill_list_mul F.fills_int_mul F.slot_int_rmul repeat_list F.slot_int_index.lookup
  (call_meets F.slot_int_rmul (typeIs_int s k t) F.entry_int_rmul (F.args_int_rmul_2 _ _) (int___rmul___int_list k t l b.toArray n)
   ⟨e,rfl,⟨_,e,rfl⟩,call_meets F.slot_list_mul ⟨_,e,rfl⟩ F.entry_list_mul (F.args_list_mul_2 _ _) (AutoListH.list___mul___list_int_3 l b.toArray n k t j d c) ⟨e,?_⟩⟩)
 rw[o];exact Z0 (.ref _) _ (I.lnew (r.rep k.toNat) (by rw[len_rep,Nat.mul_comm];exact A)) rfl (q _ I.fresh)
end
end L2
namespace Att
open PySem PySem.W PySem.Calls PyProof.Rows
def GE: ∀ j  vs ,WellAll P h vs (j.map WData.int)->IntsAre vs j:=by
 intro j
 induction j with
 |nil=>
  intro vs w;cases w;exact .nil
 |cons n j ih=>
  intro vs w
  cases w with
  |cons a b=>
   cases a;exact .cons _ _ (ih _ b)
theorem Cb{l:OpenLaw}(hn:l.most=some n)
  (hpre:l.row.toRowW.claim.pre args=true) (hwl:WellAll P h vals args):
  ∃a vs j,vals=[Value.ref a]/\args=[WData.list (j.map WData.int)]/\h.get? a=some {cls:=.type "list",data:=.seq vs.toArray}/\IntsAre vs j/\↑44<=n:=by
 have e:=(pre_splitW hpre).1;have o:l.pre.holds [] {args:=args}=true:=(pre_splitW hpre).2;refine(hasAllW_cons e).c λd r d k m=>?_;subst d;obtain rfl:=hasAllW_nil m;refine(hasW_list k).a λxs g p=>?_;subst g;obtain⟨j,rfl⟩:=items_int p
 have b:↑44<=n:=by
  have c:=by have c:=(holds_andW o).1;rw[hn]at c;exact c
  have i:=condW_of c (w_not (w_lt w_lit (w_len_list (w_arg rfl))));refine Nat.le_of_not_lt λq=>?_;have s:=by omega
  first
   |(rw[dT0 s]at i;exact absurd i (by decide))
   |(simp at i;lia)
 cases hwl with
 |cons w1 w2=>
  cases w2
  cases w1 with
  |list ho hall=>exact XV _ _ j rfl rfl ho (GE j _ hall) b
def attach_call{l:OpenLaw}
  (hn:l.most=some n) (hdf:d.params.defaults=[])
  (call: ∀ w  m j  mg J  z  o  L cd u  a  vs  I ,
   Ground q loose [] XP w m mg J j.heap->YP w j.heap->
   j.heap.get? z=some o->o.data=.func (docDef d.name d.params d.body d.scope L cd u)->j.heap.CodeRec cd d.name->mg d.name=some (.ref z)->
   j.heap.get? a=some {cls:=.type "list",data:=.seq vs.toArray}->IntsAre vs I->I.length<=n->j.gens=#[]->
   codeAny (model l.prog w) callerA (.call (.ref z) ⟨[.ref a],[]⟩) (λr B=>r=.ok (.ret (.bool true))/\OldK j.heap B.heap/\B.os=j.os/\AllBare B.gens) j):
  WalkO q loose XP YP l.row.toRowW d [] (λf vs=>PySem.call f vs):=by
 intro w m j mg J G Y z o L cd u D kV K O k v i H A y as h s E p C;obtain rfl:D=.none:=Dflts.none v hdf;obtain rfl:kV=.none:=Dflts.noKw v;refine(Cb hn h p).i λa vs I g Q c b e=>?_;subst g;subst Q;refine enter_call (codeAny_mono (call w m j mg J z o L cd u a vs I G Y K (fd_plain O) k i c b e H) λr B F=>?_);refine F.h λT M P N=>?_;subst T;exact⟨.inl (XV _ _ ([]) rfl (λ_=>rfl) (.bool true) (postW_of
    (by first |rfl|decide|simp[WShape.has,WShape.arms,WShape.armsAll])
    (w_eq_bool (w_res rfl) w_lit) rfl) (λ_=>⟨List.Pairwise.nil,λ_ hm=>(nomatch hm)⟩)),M,P,N⟩
end Att
namespace L2
open PySem PySem.Spec PyProof.Rows
theorem LQ: ∀{vs}{j},IntsAre vs j->Vals (j.map V.int) vs
 |_,_,.nil=>.nil
 |_,_,.cons n t h=>.cons ⟨t,rfl⟩ (LQ h)
def Gf(H:Hp):Prop:= ∀b,H b=none\/ ∃o xs,H b=some (.frz o (.lst xs))
def Gg{K:U0}
  (KX:K.In s₁.heap) (hns:s₁.heap.Ns mainGlobals mg) (j:s₁.heap.Ns builtinsNs mb) (hbb: ∀x:Str,x≠"__name__"->mb x=bootBuiltins x) (hlim:s₁.heap.NoLimit) (hg:s₁.gens=#[])
  (ha:s₁.heap.get? a=some {cls:=.type "list",data:=.seq vs.toArray}) (hi:IntsAre vs ns) (hl:ns.length<=sizeLine) (hr:Room k callerA)
  (F: ∀base:Heap,K.In base->base.Ns mainGlobals mg->FnOk P w K mg base CX k fa fd [x] sp) (hbind: ∀ s  u ,BindsTo s fd ⟨[u],[]⟩ [(x,u)])
  (hsp: ∀H:Hp,Gf H->SqL K H a (ns.map V.int)->sp [.ref a] H (λv _=>v=.bl true) λ_ _ _=>False)
  (hCX: ∀H e B,CX [] H s₁ (λ_ _ _=>False) e B->False):
  codeAny (model P w) callerA (.call (.ref fa) ⟨[.ref a],[]⟩) (λr B=>r=.ok (.ret (.bool true))/\OldK s₁.heap B.heap/\B.os=s₁.os/\AllBare B.gens) s₁:=by
 have M:=LQ hi
 have p: ∀H:Hp,Gf H->SqL K H a (ns.map V.int)->HOk P w H s₁.heap->(∀b,H b≠none->b=a)->(H a≠none->K.lookup a=none)->
   codeAny (model P w) callerA (.call (.ref fa) ⟨[.ref a],[]⟩) (λr B=>r=.ok (.ret (.bool true))/\OldK s₁.heap B.heap/\B.os=s₁.os/\AllBare B.gens) s₁:=by
  intro H Q hS E N U;have c: ∀{b:Addr}{o:Obj},s₁.heap.get? b=some o->H b=none->(Bs s₁.heap H).get? b=some o:=λe n=>(PySem.W.hideAll_get _ e λhm=>by have q:=(Ę.mp hm).2;rw[n]at q;simp at q)
  have L: ∀{b:Addr}{o:Obj}{es:Array DictEntry}{G:Nat},s₁.heap.get? b=some o->o.data=.dict es G->H b=none:=λ{b o es G} e d=>by
   cases q:H b with
   |none=>rfl
   |some u=>
    have J:=N b (by rw[q];simp);subst J;rw[ha]at e;cases e;cases d
  have i: ∀{b:Addr}{m:K0},s₁.heap.Ns b m->(Bs s₁.heap H).Ns b m:=λ{b m} ⟨o,es,G,e,d,r⟩=>(YR o es G ⟨c e (L e d),d,r⟩)
  have C:=λb o e=>c (KX b o e) (by
   cases q:H b with
   |none=>rfl
   |some u=>
    have J:=N b (by rw[q];simp);subst J;rw[U (by refine qq q ?_;simp)]at e;cases e)
  refine codeAny_mono ((F _ C (i hns)).run callerA [] s₁ H ⟨_,[]⟩ [.ref a] [.ref a] _ _ hr (⟨rfl,(⟨C,i hns,(Z3 mb (i j) hbb),let ⟨mc,S,h2⟩:=hlim;(Z3 mc (i S) h2)⟩),λb o e=>Mg e,le_of_eq ((PySem.W.hideAll_size _ _)),trivial,λb j=>absurd (show b∈([]:B9)from j) (by simp),E,.of_eq hg⟩) (hbind s₁ _) (.cons rfl .nil) (hsp H Q hS)) λr B h=>?_
  cases r with
  |error e=>exact(hCX H e B h).elim
  |ok fl=>
   cases fl with
   |next=>exact False.elim h
   |brk=>exact False.elim h
   |cont=>exact False.elim h
   |ret u=>
    refine h.m λv H' g=>g.f λX A un y Z q=>?_;subst q;obtain rfl:u=Value.bool true:=Z;refine⟨rfl,OldK.of_keep λb o e=>?_,X,A⟩
    cases q:H b with
    |none=>exact un.keep b o e q (by intro z;exact absurd (show b∈([]:B9)from z) (by simp)) (by simp)
    |some u=>
     rcases Q b with z|⟨ob,xs,z⟩
     .rw[q]at z;cases z
     .have T:=un.frzs b ob _ z;obtain⟨O,_⟩:=E b _ z;obtain⟨Y,_⟩:=y b _ T;rw[e]at O;cases O;exact Y
 cases I:K.lookup a with
 |some o=>
  have e:=KX a o I;rw[ha]at e;cases e;refine p (λ_=>none) (λ_=>.inl rfl) (.inr (YR _ _ _ ⟨I,rfl,rfl,rfl,by refine qq sA0 (qq ((hi.length)) ?_);exact hl,by simpa using M⟩)) (λb u z=>by have D:_=some u:=z;cases D) (λb z=>absurd rfl z) λz=>absurd rfl z
 |none=>
  refine p (λb=>if b=a then some _ else none) (λb=>?_) (.inl (.inr ⟨{cls:=.type "list",data:=.seq vs.toArray},iP rfl⟩)) (λb u z=>?_) (λb z=>?_) λ_=>I
  .by_cases j:b=a
   .exact .inr ⟨_,_,iP j⟩
   .exact .inl (iN j)
  .by_cases j:b=a
   .have D:=(iP j).symm.trans z;cases D;cases j;exact⟨ha,by rw[lM];exact hl,vs,_,M,ha⟩
   .have D:=(iN j).symm.trans z;cases D
  .by_cases j:b=a
   .exact j
   .exact absurd (iN j) z
def walk_of{l:PySem.W.OpenLaw}{K:Params->PySem.W.Frag}{CX:World->Bx}{sp:World->Sp}
  (hn:l.most=some n) (hn2:n<=sizeLine) (hdf:d.params.defaults=[]) (hr:Room k callerA)
  (hY: ∀ w  h ,YP w h->(K w.params).In h)
  (F: ∀ w  mg  z  h ,(K w.params).In h->h.Ns mainGlobals mg->mg d.name=some (.ref z)->
   ∃I:FuncData,(∀ s  u ,BindsTo s I ⟨[u],[]⟩ [(x,u)])/\
    ∀base:Heap,(K w.params).In base->base.Ns mainGlobals mg->FnOk l.prog w (K w.params) mg base (CX w) k z I [x] (sp w))
  (hsp: ∀ w  H  a (B:Za),↑5<=n->Gf H->SqL (K w.params) H a (B.map V.int)->sp w [.ref a] H (λv _=>v=.bl true) λ_ _ _=>False)
  (hCX: ∀ w  H  s  e  J ,CX w [] H s (λ_ _ _=>False) e J->False):
  PySem.W.WalkO q loose XP YP l.row.toRowW d [] (λf vs=>PySem.call f vs):=by
 refine Att.attach_call hn hdf λw r m mg O z o Q cd A a vs B G Y N P y p j i c C=>?_;have KX:=hY w _ Y;refine(F w mg z _ KX G.T.g p).a λI L D=>?_;exact Gg KX G.T.g G.T.b G.T.builtins G.T.nolimit C j i (ô c hn2) hr D L (λH E M=>hsp w H a B c E M) λH e J=>hCX w H m e J
noncomputable def qA(s:Stmt):Arguments:=match s with
 |.FunctionDef _ a _ _ _ _ _ _ _ _=>a
 |_=>{posonlyargs:=[],args:=[],vararg:=none,kwonlyargs:=[],kw_defaults:=[],kwarg:=none,defaults:=[]}
noncomputable def bD(s:Stmt):List Stmt:=match s with
 |.FunctionDef _ _ b _ _ _ _ _ _ _=>b
 |_=>[]
noncomputable def zP(s:Stmt):Scope:=match s with
 |.FunctionDef _ _ _ _ _ _ sc _ _ _=>sc
 |_=>{kind:=.function,names:=[],isGenerator:=false,isCoroutine:=false}
abbrev GP:Bx:=λ_ _ _ _ _ _=>False
abbrev E0:XK:=λ_ _ _=>False
def V3:WH GP X E0:=λ_ _ _ _ _ _ _ h=>h.elim
structure Fun(K:U0)(x qual:Str)(st:Stmt)(f:Addr)(fd:FuncData):Prop where
 ex: ∃(oc:Ŕ)(od:Option Addr)(kV doc pm:Ŕ)(an:Option Addr)(cdv ct:Ŕ)(osl:Array (Option Ŕ)),
  fd=PySem.W.fnOf x qual (qA st) (bD st) (zP st) .none kV doc pm an cdv ct/\K.lookup f=some ⟨oc,od,.func fd,osl⟩/\PySem.W.codeIn K cdv qual=true
 kp:PySem.W.keepIn K (.ref f)=true
section
variable{K:U0}
def Fun.ok{st:Stmt}(F:Fun K x qual st f fd)(S:FnScope N ps (zP st))(len: ∀vs H Q E,sp vs H Q E->↑10=ps.length)
  (hbody: ∀ m  A  j  s  H  vs  Q  E ,Room k (A.deeper (envOfC qual (zP st) ↑0 f m))->sp vs H Q E->
   ∃t,PSs (RU GP P w K mg base N qual (zP st) f m A j s H E).nox (bD st) t/\t {nx:=λ_ H'=>Q .non H',rt:=Q} (start N vs) H):FnOk P w K mg base GP (k+1) f fd ps sp:=by
 refine F.ex.v λn o kV d u p m r c g=>g.e λv e a=>?_;subst v;refine U3 e a S len λA j s H vs Q E i b=>?_;refine(hbody m A j s H vs Q E i b).a λt h q=>?_;exact Z3 t h.nox q
def Fun.binds{st:Stmt}(F:Fun K x qual st f fd)
  (h: ∀ kV m u  q  j ct  us ,↑66=ps.length->bindArgs (PySem.W.fnOf x qual (qA st) (bD st) (zP st) .none kV m u q j ct) ⟨us,[]⟩=pure (ps.zip us)):Binds K fd ps []:=by
 refine F.ex.v λc d kV m u q j ct a g=>g.e λi e b=>?_;subst i;exact .all (h kV m u q j ct)
def Wp{st:Stmt}{kV:Ŕ}(l:K.lookup f=some ⟨oc,od,.func (PySem.W.fnOf x qual (qA st) (bD st) (zP st) .none kV doc pm an cdv ct),osl⟩)
  (c:PySem.W.codeIn K cdv qual=true) (k:PySem.W.keepIn K (.ref f)=true):Fun K x qual st f (PySem.W.fnOf x qual (qA st) (bD st) (zP st) .none kV doc pm an cdv ct):=⟨(We oc od kV doc pm an cdv ct osl ⟨rfl,l,c⟩),k⟩
end
section
variable{X:Cx}
end
end L2
set_option maxHeartbeats 4000000
namespace L2
open PySem PySem.Spec PyProof.Rows
noncomputable def vE(a:Env)(l:List (Str×NameKind))(cs:List (Str×Addr)):List (Str×Addr):=
 l.foldl (λc y=>if y.2==.free then(y.1,(a.cells.lookup y.1).getD 0)::c else c) cs
def OH{α:Type}{l:List α}{f:α->β->Sem (ForInStep β)}{g:β->α->β}: ∀ c ,(∀x∈l, ∀c,f x c=pure (.yield (g c x)))->
  forIn l c f=pure (l.foldl g c):=by
 induction l with
 |nil=>intro c _;rfl
 |cons x l ih=>
  intro c h;rw[forIn_cons,h x mF0];exact ih _ λy a=>h y (mO _ a)
def KG(h: ∀y∈scope.names,y.2=.free-> ∃c,env.cells.lookup y.1=some c):closureFor scope env=pure (vE env scope.names []):=by
 unfold closureFor vE;dsimp only;rw[OH [] ?_]
 .rfl
 .intro y i c;obtain⟨n,k⟩:=y;by_cases b:k=.free
  .subst b;obtain⟨a,d⟩:=h _ i rfl;simp[cellOf,d]
  .have e:=by simpa using b
   simp[e]
theorem FD: ∀ l  cs ,(∀y∈l,y.2=.free-> ∃c,env.cells.lookup y.1=some c)->(∀p∈cs,env.cells.lookup p.1=some p.2)->
  ∀p∈vE env l cs,env.cells.lookup p.1=some p.2
 |[],_,_,h=>h
 |(n,k)::l,cs,hl,h=>by
  refine FD l _ (λy q=>hl y (mO _ q)) λp j=>?_;by_cases m:k=.free
  .subst m;obtain⟨c,u⟩:=hl _ mF0 rfl;have a:p∈_::cs:=j;rcases mC.mp a with rfl|j
   .show env.cells.lookup n=some _;rw[u];rfl
   .exact h p j
  .have a:p∈(if _=true then _::cs else cs):=j;rw[iN (by simpa using m)]at a;exact h p a
theorem HL: ∀ l  cs  p ,p∈cs->p∈vE env l cs
 |[],_,_,h=>h
 |_::l,cs,p,h=>by
  refine HL l _ p ?_;show p∈(if _=true then _::cs else cs);split
  .exact mO _ h
  .exact h
theorem sD: ∀ l  cs  n ,(n,NameKind.free)∈l-> ∃c,(n,c)∈vE env l cs
 |[],_,_,h=>nomatch h
 |(m,k)::l,cs,n,h=>by
  rcases mC.mp h with e|h
  .have j:=congrArg Prod.fst e;have a:=congrArg Prod.snd e;subst j a;exact⟨_,HL l _ _ mF0⟩
  .exact sD l _ n h
theorem jS{β:Type}: ∀{l:List (Str×β)}{n},(∃c,(n,c)∈l)-> ∃c,l.lookup n=some c
 |[],_,h=>let ⟨_,z⟩:=h;nomatch z
 |(m,b)::l,n,h=>by
  by_cases e:n=m
  .subst e;exact⟨b,by simp[Œ]⟩
  .obtain⟨c,d⟩:=h;rcases mC.mp d with z|z
   .cases z;exact absurd rfl e
   .obtain⟨i,h'⟩:=jS ⟨c,z⟩;refine⟨i,?_⟩;have a:(n==m)=false:=by simpa using e
    simp[Œ,a,h']
noncomputable def Wq(a b:Scope):List (Str×NameKind):=a.names.map λ(n,k)=>if(k==.free&&b.kind==.function&&b.names.lookup n==some .cell)then(n,.cell)else(n,k)
noncomputable def vF(a:Scope)(N:C0)(b:Scope)(c:Db):Bool:=
 decide (b.kind=.function)&&b.names.all (λy=>decide (b.names.lookup y.1=some y.2))&&
 b.names.all (λy=>decide (y.2≠.free) || decide (a.names.lookup y.1=some .cell) || decide (a.names.lookup y.1=some .free))&&
 c.all (λi=>match N[i]? with
  |some y=>(decide (a.names.lookup y=some .cell) || decide (a.names.lookup y=some .free))&&decide (b.names.lookup y=some .free)
  |none=>false)
abbrev Fa(a:Env)(b:Scope)(C:Addr):List (Str×Addr):=cellsFrom (C+1) b.names (vE a b.names [])
theorem xQ: ∀ l  n  j ,cellsFrom n l j=cellsFrom n l []++j
 |[],n,j=>rfl
 |_::l,n,j=>by
  unfold cellsFrom;split
  .rw[xQ l _ _,xQ l _ [_],aA];rfl
  .exact xQ l n j
theorem BA: ∀ l  n {x}{c},(x,c)∈cellsFrom n l []->(x,NameKind.cell)∈l/\n<=c
 |[],n,x,c,h=>nomatch h
 |(y,k)::l,n,x,c,h=>by
  unfold cellsFrom at h;split at h
  .rename_i q;rw[xQ]at h;rcases ê.mp h with h|h
   .obtain⟨j,m⟩:=BA l _ h;exact⟨mO _ j,by lia⟩
   .have e:=mS.mp h;cases e;have a:=by simpa using q
    subst a;exact⟨mF0,à _⟩
  .obtain⟨j,m⟩:=BA l n h;exact⟨mO _ j,m⟩
def vY(h:(x,c)∈cellsFrom (C+1) l [])(a:n<=C):n<c:=ł a (BA l _ h).2
theorem uD: ∀ l  n {x},(x,NameKind.cell)∈l-> ∃c,(x,c)∈cellsFrom n l []
 |[],n,x,h=>nomatch h
 |(y,k)::l,n,x,h=>by
  unfold cellsFrom;rcases mC.mp h with e|h
  .cases e;rw[xQ];exact⟨n,õ _ mF0⟩
  .split
   .obtain⟨c,j⟩:=uD l _ h;rw[xQ];exact⟨c,ă _ j⟩
   .exact uD l n h
theorem own_apart: ∀ l  n ,(cellsFrom n l []).Pairwise λx y=>x.2≠y.2
 |[],n=>List.Pairwise.nil
 |_::l,n=>by
  unfold cellsFrom;split
  .rw[xQ];refine ì.mpr ⟨own_apart l _,List.pairwise_singleton _ _,λa j b m e=>?_⟩;rw[mS.mp m]at e;have:=(BA l _ j).2;exact ú this e
  .exact own_apart l n
theorem qB{β:Type}(x): ∀(l m:List (Str×β)),(l++m).lookup x=(l.lookup x).or (m.lookup x)
 |[],m=>rfl
 |(y,b)::l,m=>by
  rw[ĩ,Œ,Œ]
  cases x==y with
  |true=>rfl
  |false=>exact qB x l m
theorem LR{β:Type}: ∀{l:List (Str×β)},(∀c,(x,c)∉l)->l.lookup x=none
 |[],_=>rfl
 |(y,b)::l,h=>by
  rw[Œ]
  cases e:x==y with
  |true=>rw[beq_iff_eq.mp e]at h;exact absurd mF0 (h b)
  |false=>exact LR λc j=>h c (mO _ j)
def fZ(e:(Fa env sc C).lookup x=some c):(x,c)∈cellsFrom (C+1) sc.names []\/(vE env sc.names []).lookup x=some c:=by
 unfold Fa at e;rw[xQ,qB]at e
 cases z:(cellsFrom _ sc.names []).lookup x with
 |some c'=>rw[z]at e;cases e;exact .inl (PySem.mem_of_lookup z)
 |none=>rw[z]at e;exact .inr e
def Wr(h:(x,NameKind.cell)∈sc.names)(e:(Fa env sc C).lookup x=some c):(x,c)∈cellsFrom (C+1) sc.names []:=by unfold Fa at e;rw[xQ,qB]at e;obtain⟨a,h'⟩:=jS (uD sc.names _ h);rw[h']at e;cases e;exact PySem.mem_of_lookup h'
theorem Ng(h:(x,NameKind.cell)∉sc.names):(Fa env sc C).lookup x=(vE env sc.names []).lookup x:=by unfold Fa;rw[xQ,qB,LR λc a=>h (BA _ _ a).1];rfl
noncomputable def DU(σ:St)(a:Db):St:=a.map λi=>(σ[i]?).join
def lZ(σ)(idx):(DU σ idx).length=idx.length:=by unfold DU;rw[lM]
def zS(X:Cx)(sc:Scope)(T:C0)(idx:Db)(C:Addr)(s₂:œ)(H1:Hp)(fp:B9):Cx where
 prog:=X.prog
 w:=X.w
 K:=X.K
 mg:=X.mg
 base:=X.base
 A:=X.A
 N:=T++idx.map λi=>(X.N[i]?).getD Str.empty
 s₀:=s₂
 H₀:=H1
 env:=compEnvC sc (Fa X.env sc C) C X.env
 outer:=X.stack
 stack:=X.stack
 ex:=fp
 fn:=λx=>sc.names.lookup x==some .cell
 calm:=X.calm
 pn:=[]
 xe:=λ_ _=>False
def Gh(q:TI)(g:TG)(o:Addr->œ->Hp->List Addr->TT)(r:Addr->œ->Hp->List Addr->TE)(nt:Nat)(j:Db):TE:=λσ H Q=>q σ H λJ k=> ∃W:Nat->Nat->List V->Hp->Prop,(∃m,W 0 m [] k)/\ ∀i m ys d,W i m ys d->↑40<=sizeLine/\
 ((J.stop i d/\ ∀D,d D=none->Q (.ref D) (xV d D (.lst ys)))\/
   (J.go i d/\↑40<sizeLine/\ ∀x n,J.yld i d x n-> ∀τ:St,τ.length=nt->g x (τ++DU σ j) n λc p=>(∃h,c=h++DU σ j/\h.length=nt)/\
    ∀C a fp,o C a k fp c p λb H5=>if b=true then r C a k fp c H5 λy H6=> ∃e,e<m/\W (i+1) e (ys++[y]) H6 else∃e,e<m/\W (i+1) e ys H5))
section
def OI(I:Nat->œ->Prop)
  (turn: ∀n s,I n s->wpAny (model prog w) A (pyNext it) (λr u=>match r with
   |none=>R (.ok .next) u
   |some v=>wpAny (model prog w) A (letOwnedTupleGo target it v) (λ_ q=>wpAny (model prog w) A (assign target env v) (λ_ B=>
     wpAny ↑6 A (forIn ifs true λc r=>if r=true then do let ok <-isTrue c env (eval c env);pure (ForInStep.yield ok)else pure (ForInStep.yield r)) (λok j=>
      if ok=true then wpAny ↑6 A (eval elt env) (λx G=>
       wpAny ↑6 A (call (.builtin "list.append") [acc,x]) (λ_ J=> ∃m,m<n/\I m J) (λ_ _=>False) G) (λ_ _=>False) j
      else∃m,m<n/\I m j) (λ_ _=>False) B) (λ_ _=>False) q) (λ_ _=>False) u) (λ_ _=>False) s)
  (n) (h:I n s):codeAny ↑6 A (.compLoop (.ListComp elt [⟨target,iter,ifs,0⟩] scope pos) 0 it acc env) R s:=by
 refine codeAny_loop rfl I (λn s p=>?_) n h;refine wpAny_noted ?_;have no: ∀{o:VP}(v:Ŕ)(y:œ),False->o v y:=λ_ _ z=>z.elim;refine wB (wpAny_standAt (wB (û (turn n s p) (λr u a=>?_) (no))))
 cases r with
 |none=>exact wP a
 |some v=>
  refine wB (û a (λ_ q d=>wB (û d (λ_ B i=>wB (û i (λok j b=>?_) no)) no)) no)
  cases ok with
  |false=>exact wP ⟨rfl,b⟩
  |true=>
   exact wB (wB (û b (λx G k=>wB (û k (λ_ J e=>wP (wP ⟨rfl,e⟩)) no)) no))
end
def Cd(X:Cx)(a:Q0)(t:TT):Prop:=
 ∀(pins:L1)(s:œ)(σ:St)(H:Hp)(Q:Bool->Hp->Prop),Inv X pins σ H s->t σ H Q->
  wpAny ↑4 X.A (forIn a true λc r=>if r=true then do let ok <-isTrue c X.env (eval c X.env);pure (ForInStep.yield ok)else pure (ForInStep.yield r)) (TP X pins σ Q) X.xe s
def V4:TT:=λ_ H Q=>Q true H
structure CompF(osc:Scope)(N:C0)(sc:Scope)(idx:Db):Prop where
 kind:sc.kind=.function
 uni: ∀y∈sc.names,sc.names.lookup y.1=some y.2
 frees: ∀y∈sc.names,y.2=.free->osc.names.lookup y.1=some .cell\/osc.names.lookup y.1=some .free
 cap: ∀i∈idx, ∃y,N[i]? =some y/\(osc.names.lookup y=some .cell\/osc.names.lookup y=some .free)/\sc.names.lookup y=some .free
def CompF.locs(F:CompF osc N sc idx): ∀y∈sc.names,y.2=.local->sc.names.lookup y.1=some .local:=λy a e=>by rw[F.uni y a,e]
def Nh(h:vF osc N sc idx=true):CompF osc N sc idx:=by
 unfold vF at h;simp only[aE,ÿ,decide_eq_true_eq,Bool.or_eq_true]at h;obtain⟨⟨⟨b,d⟩,c⟩,j⟩:=h;refine⟨b,λy a=>d y a,λy a e=>?_,λi hi=>?_⟩
 .rcases c y a with(z|z)|z
  .exact absurd e z
  .exact .inl z
  .exact .inr z
 .have q:=j i hi
  cases e:N[i]? with
  |none=>rw[e]at q;cases q
  |some y=>
   rw[e]at q;simp only[aE,decide_eq_true_eq,Bool.or_eq_true]at q;exact⟨y,rfl,q.1,q.2⟩
def Gk(h:(Wq sc osc).lookup x=some .cell\/(Wq sc osc).lookup x=some .free):(x,NameKind.free)∈sc.names\/(x,NameKind.cell)∈sc.names:=by
 have a: ∀b,(b=.cell\/b=.free)->(x,b)∈Wq sc osc->(x,NameKind.free)∈sc.names\/(x,NameKind.cell)∈sc.names:=by
  intro b d hm;refine(mM.mp hm).a λg c e=>?_;obtain ⟨n,k⟩:=g;dsimp only at e;split at e
  .rename_i i;cases e;rw[aE,aE]at i;have:=by simpa using i.1.1
   subst this;exact .inl c
  .cases e;rcases d with rfl|rfl
   .exact .inr c
   .exact .inl c
 rcases h with h|h
 .exact a _ (.inl rfl) (PySem.mem_of_lookup h)
 .exact a _ (.inr rfl) (PySem.mem_of_lookup h)
theorem LS{a:Scope}{x:Str}: ∀{l:List (Str×NameKind)},l.lookup x=some .free->(l.map λ(n,k)=>if↑64 then(n,NameKind.cell)else(n,k)).lookup x=some .cell\/(l.map λ(n,k)=>if↑64 then(n,NameKind.cell)else(n,k)).lookup x=some .free
 |[],h=>by simp at h
 |(n,k)::l,h=>by
  have j:=@LS a x l;rw[Œ]at h;rw[å];by_cases c:↑64=true
  .dsimp only;rw[iP c,Œ]
   cases b:x==n with
   |true=>exact .inl rfl
   |false=>rw[b]at h;exact j h
  .dsimp only;rw[iN c,Œ]
   cases b:x==n with
   |true=>rw[b]at h;exact .inr h
   |false=>rw[b]at h;exact j h
section
variable{C:Addr}{fp:B9}
def RX(I:Inv X pins σ H1 s₂)(F:CompF ↑34 X.N sc idx): ∀y∈sc.names,y.2=.free-> ∃c,X.env.cells.lookup y.1=some c:=
 λy a e=>I.ok.has y.1 (F.frees y a e)
def jA(I:Inv X pins σ H1 s₂)(F:CompF ↑34 X.N sc idx)(e:(vE X.env sc.names []).lookup x=some c):X.env.cells.lookup x=some c:=
 FD sc.names [] (RX I F) (λ_ z=>nomatch z) _ (PySem.mem_of_lookup e)
def Ni(I:Inv X pins σ H1 s₂)(F:CompF ↑34 X.N sc idx)(a:(x,NameKind.free)∈sc.names)(e:X.env.cells.lookup x=some c):(vE X.env sc.names []).lookup x=some c:=by obtain⟨b,h'⟩:=jS (sD sc.names [] x a);rw[h'];rw[jA I F h']at e;exact e
def Ce(I:Inv X pins σ H1 s₂)(F:CompF ↑34 X.N sc idx)(hC:s₂.heap.objs.size<=C)(hfp: ∀b∈fp,pZ X pins H1 b)(hlt: ∀b∈fp,b<s₂.heap.objs.size):(zS X sc T idx C s₂ H1 fp).Ok where
 mod:=I.ok.mod
 kind:=F.kind
 glob:=I.ok.glob
 blt:=I.ok.blt
 above:=hC
 inj:=λx y c h1 h2=>by
  have low:=λz h=>let ⟨v,q⟩:=I.cell z c (jA I F h);q.lt;rcases fZ h1 with z1|z1<;>rcases fZ h2 with z2|z2
  .exact PySem.name_of_addr (own_apart sc.names _) z1 z2
  .exact absurd (low y z2) (Nat.not_lt.mpr (le_of_lt (vY z1 hC)))
  .exact absurd (low x z1) (Nat.not_lt.mpr (le_of_lt (vY z2 hC)))
  .exact I.ok.inj x y c (jA I F z1) (jA I F z2)
 has:=λx hx=>by
  show∃c,(Fa X.env sc C).lookup x=some c;unfold Fa;rw[xQ];rcases Gk hx with z|z
  .obtain⟨c,hc⟩:=sD sc.names [] x z;exact jS ⟨c,õ _ hc⟩
  .obtain⟨c,hc⟩:=uD sc.names _ z;exact jS ⟨c,ă _ hc⟩
 cab:=λx c h e=>by exact le_of_lt (vY (Wr (PySem.mem_of_lookup (beq_iff_eq.mp h)) e) hC)
 hd:=I.ok.hd
 frames:=I.ok.frames
 stk:=.inl rfl
 exf:=λb hb=>⟨é (ç (hlt b hb) hC),λx c e=>by
  rcases fZ e with z|z
  .exact ú (lt_trans (hlt b hb) (vY z hC))
  .exact(hfp b hb).2.2.2.2.1 x c (jA I F z)⟩
 bs:=I.bs
 bsz:=ô I.ok.bsz I.sz
 noex:=λb o e hb=>by
  rcases (hfp b hb).2.2.2.1 with z|z
  .exact I.ok.noex b o e z
  .exact absurd (ç (ã e) (ô I.ok.bsz z)) (ĵ _)
 exfs:=λb hb z=>by
  rcases mC.mp (I.stkSub b z)with e|e
  .exact(hfp b hb).2.1 e
  .exact(hfp b hb).2.2.1 e
 funs:=I.stack
 frf:=I.stkFree
theorem WL(I:Inv X pins σ H1 s₂)(F:CompF ↑34 X.N sc idx)(w:s₂.heap.objs.size<=C)(D: ∀b∈fp,pZ X pins H1 b)(B: ∀b∈fp,b<s₂.heap.objs.size)
  (kp: ∀b o,s₂.heap.get? b=some o->s₄.heap.get? b=some o) (ho:s₄.os=s₂.os) (hg:s₄.gens=s₂.gens) (hn:s₄.heap.Ns C m) (hcl: ∀x c,(x,c)∈cellsFrom (C+1) sc.names []->s₄.heap.IsCell c none):
  Inv (zS X sc T idx C s₂ H1 fp) [] (T.map (λ_=>none)++DU σ idx) H1 s₄:=by
 have h: ∀c v,s₂.heap.IsCell c v->s₄.heap.IsCell c v:=λc v ⟨o,J,Q⟩=>⟨o,kp c o J,Q⟩
 refine⟨Ce I F w D B,ho,by rw[hg];exact I.bare,Un.kept kp,(Z3 m hn (λi x v S d Y=>?_)),λx c e=>?_,I.hok.fresh w,λx c e=>?_,λp O=>absurd (show p∈([]:List _)from O) (by simp),I.hok.kept kp,?_⟩
 .have k:(T++idx.map λi=>(X.N[i]?).getD Str.empty)[i]? =some x:=S;by_cases hi:i<↑37
  .rw[â (by simpa using hi),ó]at d
   cases z:T[i]? with
   |none=>rw[z]at d;cases d
   |some y=>rw[z]at d;cases d
  .rw[æ (by simpa using hi)]at d;rw[æ #[0]]at k;rw[lM]at d;unfold DU at d;rw[ó]at k d
   cases z:idx[i - ↑37]? with
   |none=>rw[z]at d;cases d
   |some j=>
    rw[z]at k d;refine(F.cap j (è z)).b λy H E A=>?_;have L:=by have q:(X.N[j]?).getD Str.empty=x:=ä k;rw[H]at q;exact q
    subst L
    have M:σ[j]? =some (some v):=by
     have q:(σ[j]?).join=some v:=ä d
     cases G:σ[j]? with
     |none=>rw[G]at q;cases q
     |some a=>rw[G]at q;have P:a=some v:=q;rw[P]
    refine I.loc.a λW K s=>?_;refine(s j y v H M (E.elim (λz=>.inr (.inl z)) λz=>.inr (.inr z))).a λu r l=>?_;refine Z3 u r ?_;rcases l with⟨kl,_⟩|⟨_,c,hc,q⟩
    .have n:X.env.scope.names.lookup y=some .local:=kl;rcases E with z|z<;>rw[z]at n<;>cases n
    .have U:(y,NameKind.cell)∉sc.names:=λz=>by have:=F.uni _ z;rw[A]at this;cases this
     refine .inr ⟨LS A,c,?_,h c _ q⟩;show(Fa X.env sc C).lookup y=some c;rw[Ng U];exact Ni I F (PySem.mem_of_lookup A) hc
 .rcases fZ e with z|z
  .exact⟨none,hcl x c z⟩
  .obtain⟨v,q⟩:=I.cell x c (jA I F z);exact⟨v,h c v q⟩
 .rcases fZ e with z|z
  .exact I.hok.fresh (le_of_lt (vY z w))
  .exact I.freeC x c (jA I F z)
 .show(T.map (λ_=>_)++DU σ idx).length=(T++idx.map λi=>(X.N[i]?).getD Str.empty).length;rw[lA,lA,lM,lM,lZ]
def WM{D:Addr}(I:Inv X pins σ H1 s₂)(w:s₂.heap.objs.size<=C)(h: ∀b∈fp,pZ X pins H1 b)
  (J:Inv (zS X sc T idx C s₂ H1 fp) [] σ1 H' s') (hs:Heap.SameBut C s'.heap h') (hD:s₂.heap.objs.size<=D) (hDC:D≠C) (eD:s'.heap.get? D=some {cls:=.type "list",data:=.seq its.toArray n}) (nD:H' D=none) (r:Vals ys its) (hz:↑40<=sizeLine):
  Inv X pins σ (xV H' D (.lst ys)) {s' with heap:=h'}:=by
 have old: ∀b o,s₂.heap.get? b=some o->b≠C/\b≠D:=λb o e=>⟨é (ç (ã e) w),é (ç (ã e) hD)⟩
 have d: ∀b u,H1 b=some u->b≠D:=λb u e=>é (ç (I.hok.lt e) hD);have p:=J.free;have B:=J.base;have k: ∀b o,b≠C->s'.heap.get? b=some o->h'.get? b=some o:=λb o a e=>(hs.2 b a).trans e;refine I.call' J.os ⟨λb o e q a i=>?_,λb o e q a i=>?_,λb o e q i=>?_,λb o e i=>?_,λb xs e=>?_,λb o u e=>?_,λb ps e=>?_⟩ ?_ J.bare λb a=>⟨(h b a).2.2.2.1,(h b a).2.1,(h b a).2.2.2.2.1,(h b a).2.2.2.2.2⟩
 .exact k b o (old b o e).1 (B.keep b o e q a i)
 .obtain⟨sl,z⟩:=B.slot b o e q a i;exact⟨sl,k b _ (old b o e).1 z⟩
 .rw[zH (old b o e).2];exact B.free b o e q i
 .obtain⟨m,z⟩:=B.there b o e i;exact⟨m,k b m (old b o e).1 z⟩
 .rw[zH (d b _ e)];exact B.tups b xs e
 .rw[zH (d b _ e)];exact B.frzs b o u e
 .obtain⟨j,z⟩:=B.tbls b ps e;exact⟨j,by rw[zH (d b _ e)];exact z⟩
 .intro b u e;by_cases a:b=D
  .subst a;rw[zO]at e;cases e;exact⟨hz,its,n,r,k b _ hDC eD⟩
  .rw[zH a]at e;refine(J.hok b u e).stay (λc v s q=>k c v ?_ q) (λc q=>by rw[zH (zN q nD)];exact q) λc xs q=>by rw[zH (zN q nD)];exact q
   rcases s with z|z
   .rw[z];exact zN e p
   .exact zN z p
end
section
def KH
  (d:Q (newEnv scope ↑0 globals (cellsFrom (↑0+1) scope.names closure) qual none .none (some outer) builtinsNs) {s with heap:=pushCells (s.heap.push {cls:=.type "dict",data:=.dict #[]}) scope.names}):
  wpAny M A (newFunctionEnv scope globals closure [] qual none .none (some outer)) Q E s:=by
 simp only[newFunctionEnv,Option.isSome_some,if_true];refine wB (wpAny_alloc ?_);refine wB (wpAny_layCells _ (λc kind b=>by cases a:kind==NameKind.cell<;>simp[a]) _ _ _ _ ?_);refine qq (show({s with heap:=s.heap.push {cls:=.type "dict",data:=.dict #[]}}:œ).heap.objs.size=↑0+1 from Ĕ ..) ?_;exact wB (wP (wP d))
theorem RY(T)(idx)
  (hi:R1 C X tg iter wi) (hCx: ∀c j L fp pins σ,Inv X pins σ L j->C (zS X sc T idx c j L fp)) (hB:vF ↑34 X.N sc idx=true)
  (hg: ∀C j H1 fp,PG (zS X sc T idx C j H1 fp) tg g)
  (hc: ∀C j H1 fp,Cd (zS X sc T idx C j H1 fp) ifs (tc C j H1 fp))
  (he: ∀C j H1 fp,PE (zS X sc T idx C j H1 fp) elt (te C j H1 fp))
  (hs: ∀x,foldedSetIterable iter X.env x=pure x:=by intro _;rfl)
         (I:↑2) (h:Gh wi g tc te ↑37 idx σ H Q)
  (fin: ∀ D C  O  H'  r ,(∀h',Heap.SameBut C O.heap h'->Inv X pins σ H' {O with heap:=h'})->pZ X pins H' C->(∃m,O.heap.Ns C m)->Q (.ref D) H'->
   compPost ↑4 X.A X.xe use Q' (.ref D) C (.ok r) O):
  wpAny ↑4 X.A (comprehension ↑19 sc X.env (firstIterPos [⟨tg,iter,ifs,0⟩] pos) (newList []) false (eval iter X.env) use) Q' X.xe s:=by
 have cf:=Nh hB;refine wpAny_comprehension_free rfl hs (KG (RX I cf)) cf.kind cf.locs ?_;refine wG (hi pins s σ H _ I h) λv s1 h1=>wG h1 λa7 a h2=>?_;rw[31];obtain⟨it,fp,tn,J,L,e,U,K,ai,f2,W,⟨m0,w0⟩,aq⟩:=h2;subst e;have ak: ∀b∈fp,b<a.heap.objs.size:=λb E=>let ⟨o,e,_⟩:=K.obj _ _ ai b E;ã e;refine bw ?_;refine ü (KH ?_);dsimp only;generalize aj:a.heap.push {cls:=.type "list",dict:=none,data:=.seq ([]:A0).toArray}=HH;generalize ah:pushCells _ sc.names=h₁;have hC:HH.objs.size=↑14+1:=by rw[<-aj,Ĕ]
 have Y:↑14≠HH.objs.size:=by rw[hC];exact é (Nat.lt_succ_self _)
 have G:↑14<=HH.objs.size:=by rw[hC];exact le_succ _
 have ao: ∀b o,HH.get? b=some o->h₁.get? b=some o:=λb o e=>ah▸pushCells_keeps _ _ b o (hP0 _ e);have old: ∀b o,a.heap.get? b=some o->h₁.get? b=some o:=λb o e=>ao b o (aj▸hP0 _ e);have a5: ∀x c,(x,c)∈cellsFrom (HH.objs.size+1) sc.names []->h₁.IsCell c none:=λx c hm=>by have ok:=cellsFrom_ok sc.names (HH.push {cls:=.type "dict",data:=.dict #[]}) 0 [] ⟨λ_ _ hm=>(nomatch hm),List.Pairwise.nil⟩ (zero_le _);rw[Ĕ,ah]at ok;exact(ok.empty x c hm).1
 have cD: ∀x c,(Fa X.env sc HH.objs.size).lookup x=some c->c≠a.heap.objs.size:=λx c e=>by
  rcases fZ e with z|z
  .exact ú (vY z G)
  .obtain⟨v,q⟩:=U.cell x c (jA U cf z);exact é q.lt
 have Z: ∀O:œ,O={a with heap:=h₁}->
   codeAny ↑4 X.A (.compLoop ↑19 0 (.ref it) (.ref ↑14) (compEnvC sc (Fa X.env sc HH.objs.size) HH.objs.size X.env))
    (compPost ↑4 X.A X.xe use Q' (.ref ↑14) HH.objs.size) O:=by
  rintro O rfl
  have J0:Inv _ [] (T.map (λ_=>none)++DU σ idx) L {a with heap:=h₁}:=
   WL U cf G f2 ak old rfl rfl (ah▸(Heap.Ns.new HH (.type "dict")).keeps (pushCells_keeps _ _)) a5
  refine OI (λk s'=> ∃(i:Nat)(ys:List V)(B:A0)(n:Nat)(H':Hp)(τ:St),Inv _ [] (τ++DU σ idx) H' s'/\τ.length=↑37/\tn i s'.heap/\(∀b∈fp,H' b=none)/\
   s'.heap.get? ↑14=some {cls:=.type "list",data:=.seq B.toArray n}/\H' ↑14=none/\Vals ys B/\W i k ys H') ?_ m0
   (WW 0 ([]) ([]) 0 L _ ⟨J0,by rw[lM],K.keep _ _ _ ai λb _ o e=>old b o e,λb E=>(f2 b E).1,ao _ _ (aj▸á _ rfl),U.hok.fresh (à _),.nil,w0⟩)
  rintro k s3 ⟨i,ys,B,n,H3,τ,I3,a0,ax,au,az,ae,r3,w3⟩;obtain⟨hz,a4⟩:=aq i k ys H3 w3;have ar:↑14∉(zS X sc T idx HH.objs.size a L fp).fs:=λz=>by obtain⟨_,o,ho,_⟩:=U.stack.mem z;exact absurd (ã ho) (ĵ _)
  have av: ∀{H':Hp}{s':œ},s'.heap.get? ↑14=some {cls:=.type "list",data:=.seq B.toArray n}->H' ↑14=none->
    ∀p∈[(↑14,_)],s'.heap.get? p.1=some p.2/\H' p.1=none/\p.1≠(zS X sc T idx HH.objs.size a L fp).env.locals/\p.1∉(zS X sc T idx HH.objs.size a L fp).fs/\ ∀v,p.2.data≠.cell v:=
   λ{H' s'} e1 e2 p S=>by
    have ep:p=(↑14,{cls:=.type "list",data:=.seq B.toArray n}):=by simpa using S
    subst ep;exact⟨e1,e2,Y,ar,λv z=>by cases z⟩
  have P3:Inv _ [_] (τ++DU σ idx) H3 s3:=I3.pins_of (av az ae)
  have M: ∀{H':Hp},(∀b∈fp,H' b=none)-> ∀b∈fp,pZ _ [_] H' b:=λ{H'} hn b E=>by
   have ab:=ak b E;refine⟨hn b E,é (ç ab G),I3.ok.exfs b E,.inl E,λx c e=>?_,λp S=>?_⟩
   .rcases fZ e with z|z
    .exact ú (lt_trans ab (vY z G))
    .exact(f2 b E).2.2.2.2.1 x c (jA U cf z)
   have ep:p=(↑14,({cls:=.type "list",data:=.seq B.toArray n}:Obj)):=by simpa [zS]using S
   subst ep;exact ú ab
  rcases a4 with⟨stop,q⟩|⟨go,hl2,step⟩
  .refine wG (K.done (zS X sc T idx HH.objs.size a L fp) rfl rfl rfl (hCx _ _ _ _ _ _ U) i _ s3 _ H3 (λ_ _=>False) P3 (M au) ax stop) λr O ⟨hr,I4⟩=>?_;subst hr;refine(id I4.loc).a λm hn _=>?_;exact fin _ _ O _ _ (λh' a3=>WM U G f2 (I4.pins_of (λp S=>nomatch S)) a3 (à _) Y ((I4.pin (a.heap.objs.size,{cls:=.type "list",data:=.seq B.toArray n}) (by simp)).1) ae r3 hz) (U.fpOk G (by rw[zH (Ne.symm Y)];exact I4.free)) ⟨m,hn⟩ (q _ ae)
  .refine wG (K.item (zS X sc T idx HH.objs.size a L fp) rfl rfl rfl (hCx _ _ _ _ _ _ U) i _ s3 _ H3 (λ_ _=>False) P3 (M au) ax go) λr O ⟨u,hr,h4⟩=>?_;subst hr;refine wG h4 λ_ s5 ⟨x,H5,I5,r5,y5,P,ay⟩=>?_;refine wG (hg HH.objs.size a L fp _ s5 _ H5 x u _ (I5.pinned (M ay) (K.obj _ _ P)) r5 (step x H5 y5 τ a0)) λ_ s6 ⟨a6,H6,I6,⟨aa,e6,l6⟩,q6⟩=>?_;subst e6;refine wG (hc HH.objs.size a L fp _ s6 _ H6 _ I6 (q6 HH.objs.size a fp)) λok s7 ⟨H7,I7,q7⟩=>?_
   have mD:(↑14,({cls:=.type "list",data:=.seq B.toArray n}:Obj))∈(zS X sc T idx HH.objs.size a L fp).pn++([(↑14,{cls:=.type "list",data:=.seq B.toArray n})]++vW fp s5.heap):=
    õ _ (ă _ (by simp))
   have mF: ∀b∈fp, ∀o,s5.heap.get? b=some o->(b,o)∈(zS X sc T idx HH.objs.size a L fp).pn++([(↑14,{cls:=.type "list",data:=.seq B.toArray n})]++vW fp s5.heap):=λb E o e=>
    õ _ (õ _ (vX E e))
   cases ok with
   |false=>
    rw[iN xF0]at q7 ⊢;obtain⟨m',af,w7⟩:=q7;refine⟨m',af,i+1,ys,B,n,H7,aa,I7.pins_of (λp S=>nomatch S),l6,K.keep _ _ _ P λb E o e=>(I7.pin _ (mF b E o e)).1,λb E=>?_,(I7.pin _ mD).1,(I7.pin _ mD).2.1,r3,w7⟩;obtain⟨o,e,d⟩:=K.obj _ _ P b E;exact(I7.pin _ (mF b E o e)).2.1
   |true=>
    rw[iP rfl]at q7 ⊢;refine wG (he HH.objs.size a L fp _ s7 _ H7 _ I7 q7) λy s8 ⟨yv,H8,I8,r8,m',af,w8⟩=>?_;have ag:=(I8.pin _ mD).1;have aw:=(I8.pin _ mD).2.1;have hl:=r3.length;have q:=PySem.IsL.update ag (λz=>z.push y);rw[show B.toArray.push y=(B++[y]).toArray by simp]at q;refine call_meets PySem.F.slot_list_append ⟨_,ag,rfl⟩ PySem.F.entry_list_append (PySem.F.args_list_append_2 _ _) (PySem.list_append a.heap.objs.size B.toArray n y (by rw[sA0];lia)) ⟨ag,?_⟩;have I9:Inv _ [] (aa++DU σ idx) H8 s8:=I8.pins_of (λp S=>nomatch S);have up: ∀b o,b≠a.heap.objs.size->s8.heap.get? b=some o->(s8.heap.update a.heap.objs.size (Obj.mapSeq λz=>z.push y)).get? b=some o:=λb o E e=>(þ s8.heap _ (Ne.symm E)).trans e;refine⟨m',af,i+1,_,_,_,H8,aa,I9.turned up aw Y (.inr (à _)) cD (λp S=>nomatch S),l6,?_,λb E=>?_,q,aw,r3.append (.cons r8 .nil),w8⟩
    .exact K.keep _ _ _ P λb E o e=>up b o (é (ak b E)) (I8.pin _ (mF b E o e)).1
    .obtain⟨o,e,d⟩:=K.obj _ _ P b E;exact(I8.pin _ (mF b E o e)).2.1
 exact codeAny_compStart_list (Z _ rfl) (K.self X.A 0 _ _ _ (K.keep _ _ _ ai λb _ o e=>old b o e) (Z _ rfl))
def Nj(T)(idx)
  (hi:R1 C X tg iter wi) (hCx: ∀c j z fp pins σ,Inv X pins σ z j->C (zS X sc T idx c j z fp)) (hB:vF ↑34 X.N sc idx=true)
  (hg: ∀C j u fp,PG (zS X sc T idx C j u fp) tg g)
  (hc: ∀C j u fp,Cd (zS X sc T idx C j u fp) ifs (tc C j u fp))
  (he: ∀C j u fp,PE (zS X sc T idx C j u fp) elt (te C j u fp))
  (hs: ∀x,foldedSetIterable iter X.env x=pure x:=by intro _;rfl):
  PE X ↑19 (Gh wi g tc te ↑37 idx):=by
 rw[22];exact RY T idx hi hCx hB hg hc he hs I h λD C b H' r J _ ⟨m,hn⟩ q=>(Z3 m hn (λh' a=>(Z0 (.ref D) H' (J h' a) rfl q)))
end
noncomputable def bC(x:Db):Str:=⟨x.toArray⟩
def dU(x):(bC x).length=x.length:=by simp[bC,Str.length]
def OJ(x):(bC x).cps.toList=x:=by simp[bC]
def uE(h:bC x=bC y):x=y:=by have:=congrArg (λs=>s.cps.toList) h;simpa [bC]using this
def Nk(x y):bC x++bC y=bC (x++y):=by show Str.append _ _=_;simp[Str.append,bC]
theorem Nl(c):(⟨#[c]⟩)=bC [c]:=rfl
def rY{α:Type}(xs:List α)(lo hi:P0):List α:=(xs.drop (HT.sIx ↑8 0 lo)).take (HT.sIx ↑8 ↑8 hi - HT.sIx ↑8 0 lo)
theorem strIdx(lo hi)(n):Builtin.Str.strSliceIndices lo hi 1 n=(List.range (HT.sIx n n hi - HT.sIx n 0 lo)).map (HT.sIx n 0 lo+·):=by
 have a:(match lo with |none=>(if(1:Int)>0 then(0:Int)else(n:Int) - 1)|some i=>if(1:Int)>0 then max 0 (min (if i<0 then i+(n:Int)else i) (n:Int))else max (-1) (min (if i<0 then i+(n:Int)else i) ((n:Int) - 1)))=((HT.sIx n 0 lo:Nat):Int):=by
  cases lo with
  |none=>simp[HT.sIx]
  |some i=>
   simp only[HT.sIx,show(1:Int)>0 by decide,if_true];by_cases h:i<0
   .simp only[h,if_true];lia
   .simp only[h,iF];lia
 have b:(match hi with |none=>(if(1:Int)>0 then(n:Int)else -1)|some i=>if(1:Int)>0 then max 0 (min (if i<0 then i+(n:Int)else i) (n:Int))else max (-1) (min (if i<0 then i+(n:Int)else i) ((n:Int) - 1)))=((HT.sIx n n hi:Nat):Int):=by
  cases hi with
  |none=>simp[HT.sIx]
  |some i=>
   simp only[HT.sIx,show(1:Int)>0 by decide,if_true];by_cases h:i<0
   .simp only[h,if_true];lia
   .simp only[h,iF];lia
 rw[<-sliceRange_one];unfold Builtin.Str.strSliceIndices;rw[<-a, <-b];cases lo<;>cases hi<;>rfl
theorem Cf(x)(lo hi):Txt.slice (bC x) lo hi=bC (rY x lo hi):=by
 unfold Txt.slice;rw[strIdx,dU];have c:=by have:=pick_run (bC x).cps (HT.sIx x.length 0 lo) (HT.sIx x.length x.length hi - HT.sIx x.length 0 lo);exact this
 rw[c];split
 .rename_i a;rw[aE]at a;have b:=by simpa using a.2
  have d:HT.sIx x.length x.length hi<=x.length:=HT.sIx_le _ _ (à _) _;have h:HT.sIx x.length 0 lo<=x.length:=HT.sIx_le _ _ (zero_le _) _;have e:HT.sIx x.length 0 lo=0:=by lia
  unfold rY;rw[b,e];simp
 .rfl
section
variable{X:Cx}
def rSlS:V->Option Int->Option Int->Hp->VK->Prop:=λx lo hi H Q=> ∃a,x=.str (bC a)/\↑67<=sizeLine/\Q (.str (bC (rY a lo hi))) H
def Wt:SlR X rSlS:=by
 intro pins s σ H x v y z lo hi sl Q I n hs p m h;refine h.b λr g w q=>?_;subst g;obtain⟨t,rfl⟩:=n;have a:(Txt.slice (bC r) lo hi).length<=sizeLine:=ô (Txt.slice_le _ _ _) (by rw[dU];exact w);rw[<-Cf]at q;refine Z0 ("str") _ slot_str_getitem.lookup (typeIs_str _ _ _) ?_;obtain⟨o,d,b,c⟩:=hs
 cases p with
 |none=>
  cases m with
  |none=>exact Ō (l:=none) (u:=none) (st:=none) (ZB o d b c) rfl (post_val_or_str ⟨a,λe k=>(Z0 (.str _) H (I.tok _) ⟨_,rfl⟩ q)⟩)
  |int j uj=>exact Ō (l:=none) (u:=some (j,uj)) (st:=none) (ZB o d b c) rfl (post_val_or_str ⟨a,λe k=>(Z0 (.str _) H (I.tok _) ⟨_,rfl⟩ q)⟩)
 |int i ui=>
  cases m with
  |none=>exact Ō (l:=some (i,ui)) (u:=none) (st:=none) (ZB o d b c) rfl (post_val_or_str ⟨a,λe k=>(Z0 (.str _) H (I.tok _) ⟨_,rfl⟩ q)⟩)
  |int j uj=>exact Ō (l:=some (i,ui)) (u:=some (j,uj)) (st:=none) (ZB o d b c) rfl (post_val_or_str ⟨a,λe k=>(Z0 (.str _) H (I.tok _) ⟨_,rfl⟩ q)⟩)
def oZ:OpR X (compareOp .LtE) (λx y H Q=> ∃i j,x=.str i/\y=.str j/\Q (.bl (!(j.cps.toList<i.cps.toList))) H):=by intro pins s σ H x y v u Q I a b h;refine h.c λi j d g q=>?_;subst d;subst g;obtain⟨t,rfl⟩:=a;obtain⟨c,rfl⟩:=b;exact PySem.P.le_str (Z0 (.bl _) H I rfl q)
noncomputable def OK(cs:Db)(k:Int):List Nat:=(List.replicate k.toNat cs).flatten
theorem DV(cs): ∀ k (j:Db),List.foldl (λq m=>q++m) j.toArray (List.replicate k cs.toArray)=(j++(List.replicate k cs).flatten).toArray
 |0,j=>by simp
 |k+1,j=>by rw[ē,ē,flatten_cons, <-aA, <-DV cs k _];simp
theorem WN:OpR X (binaryOp .Mult) (λx y H Q=> ∃cs k,x=.str (bC cs)/\y=.int k/\0<=k/\k<1000/\cs.length<=1000/\Q (.str (bC (OK cs k))) H):=by
 intro pins s σ H x y v u Q I o j h;obtain⟨cs,k,rfl,rfl,C,B,r,q⟩:=h;obtain⟨t,rfl⟩:=o;obtain⟨A,rfl⟩:=j;have hs:=ĝ;have e:cs.length * k.toNat<=1000 * 1000:=mul_le_mul r #[0];refine PySem.P.mul_str (by rw[dF0 #[0],dF0 #[0]];rfl) (λD _=>?_) (λ_ _=>?_) ?_
 .rw[dU]
  have:(1000:Int)<=(2 ^ 63 - 1) / k:=by
   rw[Int.le_ediv_iff_mul_le #[0]]
   lia
  lia
 .rw[dU];exact dF0 #[0]
 .have b: ∀(z:Str),z=bC _->z.length<=sizeLine->(Made.str z).post (EP X pins σ Q) s:=λz p m=>⟨m,by rw[p];exact(Z0 (.str _) H (I.tok _) ⟨_,rfl⟩ q)⟩
  have c:(OK cs k).length=k.toNat * cs.length:=by unfold OK;rw[len_rep]
  by_cases hn:k<1
  .rw[iP hn];have n:k.toNat=0:=by lia
   refine b _ ?_ ↑11;unfold OK;rw[n];rfl
  .rw[iN hn];by_cases a:(k==1 || (bC cs).length==0)=true
   .rw[iP a];refine Z0 (.str _) H I ⟨_,rfl⟩ ?_
    have:OK cs k=cs:=by
     unfold OK;rw[Bool.or_eq_true]at a;rcases a with a|a
     .have:=by simpa using a
      subst this;simp
     .rw[dU]at a;have:cs=[]:=by cases cs with |nil=>rfl|cons _ _=>simp at a
      subst this;simp
    rw[this]at q;exact q
   .rw[iN a];refine b _ ?_ ?_
    .unfold OK bC;have:=DV cs k.toNat [];rw[Ő]at this;exact congrArg Str.mk this
    .have w:(List.foldl (λd i=>d++i) #[] (List.replicate k.toNat (bC cs).cps))=(OK cs k).toArray:=by have:=DV cs k.toNat [];rw[Ő]at this;exact this
     show(List.foldl (λd i=>d++i) #[] _).size<=sizeLine;rw[w,sA0,c,Nat.mul_comm]
     lia
def OL:CallR X (.builtin "all") (λxs H Q=> ∃(a:Addr)(bs:O0),xs=[.ref a]/\SqL X.K H a (bs.map V.bl)/\X.calm=true/\Q (.bl (bs.all id)) H):=by
 intro pins s σ H xs S Q I r h;refine h.k λa bs g C G q=>?_;subst g;refine(vals1 r).a λu u D=>?_;subst u;subst D;refine(I.list C).b λn A w M=>?_;have c:n.length=bs.length:=by rw[<-A.length,lM]
 refine PySem.call_all_walk (ļ w.isList ?_);have E:a≠s.heap.objs.size:=by refine w.isList.a λo F _=>?_;exact é (ã F)
 have I1: ∀(h':Heap)(p:Nat),(∀b o,b∉[↑0]->(s.heap.push {cls:=.type "list_iterator",data:=.fields #[.ref a,.int 0 0]}).get? b=some o->h'.get? b=some o)->Inv X pins σ H {s with heap:=h',toks:=p}:=λh' p k=>
  I.kept λb o e=>k b o (by simpa using é (ã e)) (hP0 _ e)
 refine WI _ _ _ _ _ _ (λi=>bs.getD i false) ⟨rfl,PySem.Walks.list (by first |exact I.ok.hd G|exact _) _ a E n.toArray,⟨↑26,w.isList.at λo e=>hP0 _ e⟩,?_,λh' p k=>?_⟩
 .intro i v L P O hv y;have m:=by simpa using hv
  have hi:i<bs.length:=by rw[<-c];exact(gS.mp m).1
  have J:(bs.map V.bl)[i]? =some (V.bl (bs.getD i false)):=by simp[hi]
  refine(A.get J).a λN j z=>?_;rw[m]at j;cases j;subst z;exact ć y
 .refine(Z0 _ H (I1 h' p k) ?_ q);congr 1;refine qq sA0 (qq c ?_)
  have: ∀(l:O0),(List.range l.length).all (λi=>l.getD i false)=l.all id:=by
   intro l;rw[Bool.eq_iff_iff,ÿ,ÿ];constructor
   .intro h x B;obtain⟨i,hi,rfl⟩:=List.getElem_of_mem B;have:=h i (ő.mpr hi);simpa [ī,hi]using this
   .intro h i hi;have d:=ő.mp hi;have:=h l[i] (ŀ d);simpa [ī,d]using this
  exact this bs
noncomputable def V5(x:Db):It:=⟨λi _=>i<x.length,λi H v H'=>H'=H/\ ∃c,x[i]? =some c/\v=.str (bC [c]),λi _=>x.length<=i⟩
def iStr(b:TE):TI:=λσ H R=>b σ H λv a=> ∃x,v=.str (bC x)/\R (V5 x) a
def RZ{K:U0}(it)(ty)(x)(t)(hty:ty="str_ascii_iterator"\/ty="str_iterator"):
  Turn P w K tg (V5 x) [it] it (λi h=>h.IsStrIter it ty (bC x) t i) where
 mem:=by simp
 obj:=λi h st b hb=>by
  have e:=by simpa using hb
  subst e;refine st.b λo e c d=>?_;exact Z3 o e (λv z=>by rw[d]at z;cases z)
 keep:=λi h h' st k=>let ⟨o,ho,r⟩:=st;(Z3 o (k it (by simp) o ho) r)
 item:=by
  rw[23];subst hP hw hK;refine(hf it (by simp)).f λf0 f1 f2 f3 f4 f5=>?_;have hi:i<x.length:=hg;have hxi:(bC x).cps[i]? =some x[i]:=by simp[bC]
  have fin: ∀(h':Heap),h'.IsStrIter it ty (bC x) t (i+1)->Heap.SameBut it s.heap h'-> ∃u,some (Value.str ⟨#[x[i]]⟩ s.toks)=some u/\
    wpAny ↑4 X.A (letOwnedTupleGo tg _ u) (λ_ s2=> ∃y H',Inv X pins σ H' s2/\RelV y u/\(V5 x).yld i H y H'/\s2.heap.IsStrIter it ty _ t _/\ ∀b∈[it],H' b=none) E {s with heap:=h',toks:=s.toks+1}:=λh' st' sb=>by
   refine(id st').b λo e c d=>?_;refine⟨_,rfl,YV e c d (by rcases hty with rfl|rfl<;>decide) (XD (.str _) H (I.turned (λb o hb e=>(sb.2 b hb).trans e) f0 f1 f3 f4 f5) ⟨_,rfl⟩ ⟨rfl,x[i],by simp[hi],rfl⟩ st' (λb hb=>(hf b hb).1))⟩
  rcases hty with rfl|rfl
  .exact wpAny_pyNext_ascii_item st hxi λh' st' sb=>fin h' st' sb
  .exact wpAny_pyNext_wide_item st hxi λh' st' sb=>fin h' st' sb
 done:=by
  rw[23];refine(hf it (by simp)).f λf0 f1 f2 f3 f4 f5=>?_;have hi:x.length<=i:=hg;have hxi:(bC x).cps[i]? =none:=by simp[bC,hi]
  rcases hty with rfl|rfl
  .exact wpAny_pyNext_ascii_end (I.ok.hd hc) st hxi λh' eb=>⟨rfl,I.turned (λb o hb e=>eb b o hb e) f0 f1 f3 f4 f5⟩
  .exact wpAny_pyNext_wide_end (I.ok.hd hc) st hxi λh' eb=>⟨rfl,I.turned (λb o hb e=>eb b o hb e) f0 f1 f3 f4 f5⟩
 self:=λ_ _ _ _ _ st h=>by
  rcases hty with rfl|rfl
  .exact wpAny_pyIter_striter_ascii st h
  .exact wpAny_pyIter_striter_wide st h
def Wu(j:PE X l tl):PI X tg l (iStr tl):=by
 intro pins s σ H R I h;refine wG (j pins s σ H _ I h) λv a ⟨x,d,I1,k,n⟩=>?_;refine n.a λc e q=>?_;subst e;obtain⟨t,rfl⟩:=k
 have fp: ∀(o:Obj), ∀b∈[↑14],pZ X pins d b:=λo b m=>by
  have e:b=a.heap.objs.size:=by simpa using m
  subst e;rw[29]
 cases i:(bC c).cps.all (· <128)
 .refine wpAny_pyIter_wide i ?_;exact XL ↑14 ([↑14]) _ _ d rfl (I1.kept (t':=a.toks) λb o e=>hP0 _ e) (RZ _ "str_iterator" c t (.inr rfl)) ↑26 (fp default) q
 .refine wpAny_pyIter_ascii i ?_;exact XL ↑14 ([↑14]) _ _ d rfl (I1.kept (t':=a.toks) λb o e=>hP0 _ e) (RZ _ "str_ascii_iterator" c t (.inl rfl)) ↑26 (fp default) q
end
section
def PU(X:Cx)(e:Expr)(t:TE):Prop:= ∀(i:Nat)(x:Str)(a pos:Pos),X.N.Nodup->X.N[i]? =some x->Loc ↑34 x->(X.fn x=true\/X.env.scope.names.lookup x=some .local)->
 swapsWith e (some (.Name x a)) pos.line X.env=pure true->PS X (.Assign [.Name x a] e pos) (Vn t (Fo i))
def Nn(T)(idx)
  (hi:R1 C X tg iter wi) (hCx: ∀c j B fp pins σ,Inv X pins σ B j->C (zS X sc T idx c j B fp)) (hB:vF ↑34 X.N sc idx=true)
  (hg: ∀C j u fp,PG (zS X sc T idx C j u fp) tg g)
  (hc: ∀C j u fp,Cd (zS X sc T idx C j u fp) ifs (tc C j u fp))
  (he: ∀C j u fp,PE (zS X sc T idx C j u fp) elt (te C j u fp))
  (hs: ∀x,foldedSetIterable iter X.env x=pure x:=by intro _;rfl):
  PU X ↑19 (Gh wi g tc te ↑37 idx):=by
 intro i x y z M r A G p pins s σ H D I h;rw[exec_Assign_Name_used _ _ _ _ p];refine wB (wpAny_standAt (wB ?_));refine wB (wG (RY T idx hi hCx hB hg hc he hs I h λK C E H' _ L d hm q=>?_) λ_ J F=>wP (wP F));refine wpAny_assign_Name (LI (L E.heap (Heap.SameBut.refl _ _)) M r A (show RelV (.ref K) _ from rfl) (λJ O ⟨a,v,n⟩=>?_) G);obtain⟨m,hm⟩:=hm
 have w:C≠a:=by
  rintro rfl;rcases n with n|n
  .exact d.2.1 n
  .exact d.2.2.2.2.1 x _ n rfl
 refine Z3 m (hm.sameBut v w) (λh' k=>(YS _ H' ?_ q));exact O.turned (λb o P e=>(k.2 b P).trans e) d.1 d.2.1 d.2.2.2.1 d.2.2.2.2.1 d.2.2.2.2.2
end
end L2
namespace L2
namespace M
open PySem PySem.Spec PyProof.Rows
def Gn(h:RelV y u)(d:RelV x v)(i:oY y=true)(e:oY x=true):SeqAt.RcAt A s u v (Nf y x)/\SeqAt.RcNeAt A s u v (!Nf y x):=by
 cases y with
 |non=>
  cases h
  cases x with
  |non=>subst d;exact⟨.none_none,.none_none⟩
  |bl b=>subst d;exact⟨.none_bool b,.none_bool b⟩
  |int b=>obtain⟨t,rfl⟩:=d;exact⟨.none_int b t,.none_int b t⟩
  |str b=>obtain⟨t,rfl⟩:=d;exact⟨.none_str b t,.none_str b t⟩
  |_=>cases e
 |bl a=>
  subst h
  cases x with
  |non=>subst d;exact⟨.bool_none a,.bool_none a⟩
  |bl b=>subst d;exact⟨.bool_bool a b,.bool_bool a b⟩
  |int b=>obtain⟨t,rfl⟩:=d;exact⟨.bool_int a b t,.bool_int a b t⟩
  |str b=>obtain⟨t,rfl⟩:=d;exact⟨.bool_str a b t,.bool_str a b t⟩
  |_=>cases e
 |int a=>
  obtain⟨c,rfl⟩:=h
  cases x with
  |non=>subst d;exact⟨.int_none a c,.int_none a c⟩
  |bl b=>subst d;exact⟨.int_bool a c b,.int_bool a c b⟩
  |int b=>obtain⟨t,rfl⟩:=d;exact⟨.int_int a c b t,.int_int a c b t⟩
  |str b=>obtain⟨t,rfl⟩:=d;exact⟨.int_str a c b t,.int_str a c b t⟩
  |_=>cases e
 |str a=>
  obtain⟨c,rfl⟩:=h
  cases x with
  |non=>subst d;exact⟨.str_none a c,.str_none a c⟩
  |bl b=>subst d;exact⟨.str_bool a c b,.str_bool a c b⟩
  |int b=>obtain⟨t,rfl⟩:=d;exact⟨.str_int a c b t,.str_int a c b t⟩
  |str b=>obtain⟨t,rfl⟩:=d;exact⟨.str_str a c b t,.str_str a c b t⟩
  |_=>cases e
 |_=>cases i
abbrev Six(A:Around)(s:Shared)(u v:Value):Prop:=SeqAt.EqAt A s u v false/\SeqAt.EqAt A s v u false/\SeqAt.RcAt A s u v false/\SeqAt.RcAt A s v u false/\SeqAt.RcNeAt A s u v true/\SeqAt.RcNeAt A s v u true
def LT(d:RelV x v)(e:oY x=true)(a:s.heap.IsList l items)(c:A.units<cLine):Six A s (.ref l) v:=by
 cases x with
 |non=>subst d;exact⟨.list_none a c,.none_list a c,.list_none a c,.none_list a c,.list_none a c,.none_list a c⟩
 |bl b=>subst d;exact⟨.list_bool b a c,.bool_list b a c,.list_bool b a c,.bool_list b a c,.list_bool b a c,.bool_list b a c⟩
 |int b=>obtain⟨t,rfl⟩:=d;exact⟨.list_int b t a c,.int_list b t a c,.list_int b t a c,.int_list b t a c,.list_int b t a c,.int_list b t a c⟩
 |str b=>obtain⟨t,rfl⟩:=d;exact⟨.list_str b t a c,.str_list b t a c,.list_str b t a c,.str_list b t a c,.list_str b t a c,.str_list b t a c⟩
 |_=>cases e
def FE(d:RelV x v)(e:oY x=true)(a:s.heap.IsTuple l items)(c:A.units<cLine):Six A s (.ref l) v:=by
 cases x with
 |non=>subst d;exact⟨.tuple_none a c,.none_tuple a c,.tuple_none a c,.none_tuple a c,.tuple_none a c,.none_tuple a c⟩
 |bl b=>subst d;exact⟨.tuple_bool b a c,.bool_tuple b a c,.tuple_bool b a c,.bool_tuple b a c,.tuple_bool b a c,.bool_tuple b a c⟩
 |int b=>obtain⟨t,rfl⟩:=d;exact⟨.tuple_int b t a c,.int_tuple b t a c,.tuple_int b t a c,.int_tuple b t a c,.tuple_int b t a c,.int_tuple b t a c⟩
 |str b=>obtain⟨t,rfl⟩:=d;exact⟨.tuple_str b t a c,.str_tuple b t a c,.tuple_str b t a c,.str_tuple b t a c,.tuple_str b t a c,.str_tuple b t a c⟩
 |_=>cases e
def Gp(h:oY y=true):Nf y y=true:=by cases y<;>first |rfl|exact beq_self_eq_true _|exact absurd h xF0
abbrev K3:=Option Key
inductive NK where
 |key (k:K3)|tup (ks:List NK)
instance:DecidableEq NK:=λ_ _=>Classical.propDecidable _
section
variable(knd:KeyKind prog w K3)
mutual
def KI(h:Heap):NK->Ŕ->Prop
 |.key k,v=>knd.is k v=true
 |.tup ks,v=> ∃a o j n,v=.ref a/\h.get? a=some o/\o.cls=.type "tuple"/\o.data=.seq j n/\sE h ks j.toList
def sE(h:Heap):List NK->List Ŕ->Prop
 |[],vs=>vs=[]
 |k::ks,vs=> ∃v r,vs=v::r/\KI h k v/\sE h ks r
end
mutual
def FF:NK->Int
 |.key k=>knd.hash k
 |.tup ks=>reduceHash (Builtin.Tuple.tupleHashOf (HM ks))
def HM:List NK->List Int
 |[]=>[]
 |k::ks=>FF k::HM ks
end
mutual
def HN:NK->Nat
 |.key _=>1
 |.tup ks=>cP ks+1
def cP:List NK->Nat
 |[]=>0
 |k::ks=>HN k+cP ks
end
mutual
def eM:NK->Nat
 |.key _=>0
 |.tup ks=>rO ks+1
def rO:List NK->Nat
 |[]=>0
 |k::ks=>max (eM k) (rO ks)
end
variable{knd}
theorem xW:KI knd h (.key k) v↔knd.is k v=true:=by unfold KI;exact Iff.rfl
def xL:KI knd h (.tup ks) v↔ ∃a o j n,v=.ref a/\h.get? a=some o/\o.cls=.type "tuple"/\o.data=.seq j n/\sE knd h ks j.toList:=by
 conv=>lhs;unfold KI
theorem wH:sE knd h [] vs↔vs=[]:=by unfold sE;exact Iff.rfl
def yL:sE knd h (k::ks) vs↔ ∃v r,vs=v::r/\KI knd h k v/\sE knd h ks r:=by
 conv=>lhs;unfold sE
mutual
theorem OM{h:Heap}: ∀{x y:NK}{v:Ŕ},KI knd h x v->KI knd h y v->x=y
 |.key k,.key k',v,hx,hy=>by rw[knd.inj v k k' (xW.mp hx) (xW.mp hy)]
 |.key k,.tup ks,v,hx,hy=>by obtain⟨a,o,j,n,rfl,_⟩:=xL.mp hy;have:=knd.byValue _ _ (xW.mp hx);simp[carriedByValue]at this
 |.tup ks,.key k,v,hx,hy=>by obtain⟨a,o,j,n,rfl,_⟩:=xL.mp hx;have:=knd.byValue _ _ (xW.mp hy);simp[carriedByValue]at this
 |.tup ks,.tup ks',v,hx,hy=>by
  obtain⟨a,o,j,n,e,r,_,q,hi⟩:=xL.mp hx;obtain⟨u,p,c,s,m,i,_,b,d⟩:=xL.mp hy;rw[e]at m;cases m;obtain rfl:o=p:=ä (r.symm.trans i);rw[q]at b;injection b with h1 _
  subst h1;rw[SC hi d]
theorem SC{h:Heap}: ∀{xs ys:List NK}{vs:A0},sE knd h xs vs->sE knd h ys vs->xs=ys
 |[],[],_,_,_=>rfl
 |[],y::ys,vs,hx,hy=>by obtain⟨v,r,e,_⟩:=yL.mp hy;rw[wH.mp hx]at e;cases e
 |x::xs,[],vs,hx,hy=>by obtain⟨v,r,e,_⟩:=yL.mp hx;rw[wH.mp hy]at e;cases e
 |x::xs,y::ys,vs,hx,hy=>by obtain⟨v,r,e,d,i⟩:=yL.mp hx;obtain⟨k,j,c,b,a⟩:=yL.mp hy;rw[e]at c;cases c;rw[OM d b,SC i a]
end
mutual
theorem HP{h h':Heap}(m: ∀a o j n,h.get? a=some o->o.data=.seq j n->h'.get? a=some o): ∀{x:NK}{v:Ŕ},KI knd h x v->KI knd h' x v
 |.key k,v,hx=>xW.mpr (xW.mp hx)
 |.tup ks,v,hx=>by obtain⟨a,o,j,n,e,z,u,q,hi⟩:=xL.mp hx;exact xL.mpr ⟨a,o,j,n,e,m a o j n z q,u,q,LU m hi⟩
theorem LU{h h':Heap}(m: ∀a o j n,h.get? a=some o->o.data=.seq j n->h'.get? a=some o): ∀{xs:List NK}{vs:A0},sE knd h xs vs->sE knd h' xs vs
 |[],vs,hx=>wH.mpr (wH.mp hx)
 |x::xs,vs,hx=>by obtain⟨v,r,e,q,u⟩:=yL.mp hx;exact yL.mpr ⟨v,r,e,HP m q,LU m u⟩
end
theorem HQ: ∀ks:List NK,HM knd ks=ks.map (FF knd)
 |[]=>by unfold HM;rfl
 |k::ks=>by unfold HM;rw[HQ ks];rfl
def HR:cP []=0:=by rw[cP]
def sF(k)(ks):cP (k::ks)=HN k+cP ks:=by rw[cP]
def qC(k)(ks):rO (k::ks)=max (eM k) (rO ks):=by rw[rO]
def nV(ks):eM (.tup ks)=rO ks+1:=by rw[eM]
theorem vG: ∀ xs ys ,cP (xs++ys)=cP xs+cP ys
 |[],ys=>by rw[HR,Ő,Ă]
 |x::xs,ys=>by rw[ĩ,sF,sF,vG xs ys];lia
def BB{s:œ}(h:KI knd s.heap (.tup ks) (.ref a)):s.TypeIs (.ref a) "tuple":=by refine(xL.mp h).j λd o _ n d=>d.h λe c b _=>?_;cases e;exact Z3 o c b
theorem SD: ∀ n {A}{E}{s}{k}{v}{Q},eM k<=n->A.units+n<cLine->KI knd s.heap k v->Q (FF knd k) {s with toks:=s.toks+HN k}->wpAny ↑6 A (pyHash v) Q E s
 |n,A,E,s,.key k,v,Q,_,_,j,h=>knd.pyHash (xW.mp j) (by rw[HN]at h;exact h)
 |0,A,E,s,.tup ks,v,Q,z,_,_,_=>by rw[nV]at z;lia
 |n+1,A,E,s,.tup ks,v,Q,hdep,hu,j,h=>by
  refine(xL.mp j).o λa o _ m g B G z hi=>?_;subst g;have hT:s.TypeIs (.ref a) "tuple":=(Z3 o B G)
  rw[nV]at hdep
  have y:=by
   have: ∀ks:List NK,rO ks<=n-> ∀k∈ks,eM k<=n:=by
    intro ks
    induction ks with
    |nil=>intro _ k j;simp at j
    |cons x xs ih=>
     intro C k j;rw[qC]at C;rcases mC.mp j with rfl|j
     .lia
     .exact ih #[0] k j
   exact this ks #[0]
  rw[FF,HN,HQ]at h
  first |refine wB (wpAny_cRoomFor_or (.inr #[0]) ?_)|skip
  refine wB (wpAny_specialOf hT F.slot_tuple_hash.lookup ?_);refine wB (wpAny_specialOf hT F.slot_tuple_hash.lookup ?_);refine wB (wpAny_callSpecialIfBoundUnlessNone?_slot hT F.slot_tuple_hash (ë F.slot_tuple_hash hT F.entry_tuple_hash ?_ (F.args_tuple_hash_1 _)));show wpAny _ _ (Builtin.Tuple.tupleItemsOf _ >>= _) _ _ s;refine wB (wpAny_tupleItemsOf B z ?_);refine wB ?_;rw[<-Array.forIn_toList]
  refine wpAny_forIn_list _
   (λrest (b:Array Int) p=> ∃c left,ks=c++left/\sE knd s.heap left rest/\b.toList=c.map (FF knd)/\p={s with toks:=s.toks+cP c})
   _ ?_ ?_ _ _ (Ym ([]) ks rfl hi rfl (by rw[HR];rfl))
  .rintro x rest b p ⟨c,left,rfl,d,u,rfl⟩
   cases left with
   |nil=>rw[wH]at d;cases d
   |cons k ks'=>
    refine(yL.mp d).c λv r e D q=>?_;cases e;refine wB (SD n (y k (by simp)) #[0] D ?_);have H:cP (c++[k])=cP c+HN k:=by rw[vG,sF];rfl
    first
     |exact wP (Ym (c++[k]) ks' (by simp) q (by simp[u]) (by simp[add_assoc,H]))
     |exact wB _
  .rintro b p ⟨c,left,rfl,d,u,rfl⟩
   cases left with
   |cons k ks'=>refine(yL.mp d).d λv r e _=>?_;cases e
   |nil=>
    rw[aN]at h;show wpAny _ _ (retInt _) _ _ _;rw[u];refine wpAny_ret_mkInt ?_;show wpAny _ _ (if _=true then _ else _) Q E _;unfold reduceHash at h;by_cases i:(decide (-(2:Int) ^ 63<=Builtin.Tuple.tupleHashOf (c.map (FF knd)))&&decide (Builtin.Tuple.tupleHashOf (c.map (FF knd))<2 ^ 63))=true
    .rw[iP i];rw[iP i]at h;exact wP (by simpa [add_assoc]using h)
    .rw[iN i];rw[iN i]at h;exact wB (Ğ (wP (by simpa [add_assoc]using h)))
end
section
def Cg(h:Q 0xFCA86420 {s with toks:=s.toks+1}):wpAny ↑6 A (pyHash .none) Q E s:=by
 refine wB ?_;rw[cRoomFor];refine wP ?_;refine wB (wpAny_specialOf (typeIs_none s) F.slot_NoneType_hash.lookup ?_);refine wB (wpAny_specialOf (typeIs_none s) F.slot_NoneType_hash.lookup ?_)
 refine wB (wpAny_callSpecialIfBoundUnlessNone?_slot (typeIs_none s) F.slot_NoneType_hash
  (ë F.slot_NoneType_hash (typeIs_none s) F.entry_NoneType_hash
   (wpAny_ret_mkInt ?_) (F.args_NoneType_hash_1 _)))
 show wpAny _ _ _ Q E _;exact wP h
def V6:K3->Ŕ->Bool
 |some k,v=>oX k v
 |none,v=>v==.none
def pC: ∀{k}{v},V6 k v=true->(∃i t,k=some (.inl i)/\v=Value.int i t)\/(∃x t,k=some (.inr x)/\v=Value.str x t)\/(k=none/\v=.none)
 |some k,v,h=>by
  rcases yB h with⟨i,t,rfl,e⟩|⟨x,t,rfl,e⟩
  .exact .inl (YS i t rfl e)
  .exact .inr (.inl (YS x t rfl e))
 |none,v,h=>.inr (.inr ⟨rfl,eq_of_beq h⟩)
def mk(prog)(w):KeyKind prog w K3 where
 is:=V6
 hash:=λ|some k=>O8 w k|none=>0xFCA86420
 inj:=λv a b ha hb=>by rcases pC ha with⟨i,t,rfl,rfl⟩|⟨x,t,rfl,rfl⟩|⟨rfl,rfl⟩<;>rcases pC hb with⟨j,u,rfl,e⟩|⟨y,u,rfl,e⟩|⟨rfl,e⟩<;>first |(injection e with e1 _;rw[e1];done)|rfl|exact nomatch e
 byValue:=λk v h=>by rcases pC h with⟨i,t,rfl,rfl⟩|⟨x,t,rfl,rfl⟩|⟨rfl,rfl⟩<;>rfl
 pyHash:=λhv h=>by
  rcases pC hv with⟨i,t,rfl,rfl⟩|⟨x,t,rfl,rfl⟩|⟨rfl,rfl⟩
  .exact wpAny_pyHash_int h
  .exact wpAny_pyHash_str h
  .exact Cg h
 eqBool:=λ{A} {E} {s} {a} {b} {u} {v} {Q} hu hv h=>by
  cases a with
  |some a=>
   cases b with
   |some b=>exact(wO prog w).eqBool hu hv (by rw[show decide (some a=some b)=decide (a=b)from by simp]at h;exact h)
   |none=>
    cases eq_of_beq hv;rw[show decide (some a=none)=false from dF0 λz=>nomatch z]at h;rcases yB (show oX a u=true from hu)with⟨i,t,rfl,rfl⟩|⟨x,t,rfl,rfl⟩
    .exact SeqAt.EqAt.int_none i t _ _ _ _ h
    .exact SeqAt.EqAt.str_none x t _ _ _ _ h
  |none=>
   cases eq_of_beq hu
   cases b with
   |some b=>
    rw[show decide (none=some b)=false from dF0 λz=>nomatch z]at h;rcases yB (show oX b v=true from hv)with⟨i,t,rfl,rfl⟩|⟨x,t,rfl,rfl⟩
    .exact SeqAt.EqAt.none_int i t _ _ _ _ h
    .exact SeqAt.EqAt.none_str x t _ _ _ _ h
   |none=>
    cases eq_of_beq hv;rw[show decide ((none:K3)=none)=true from dT0 rfl]at h;exact SeqAt.EqAt.same _ _ _ _ _ h
 «strs»:=λk x t v h=>by
  rcases pC h with⟨i,u,rfl,e⟩|⟨y,u,rfl,e⟩|⟨rfl,e⟩
  .exact nomatch e
  .injection e with e1 _
   subst e1;cases v<;>rfl
  .exact nomatch e
def Np(a b):decide (NK.key a=NK.key b)=decide (a=b):=by
 by_cases h:a=b
 .subst h;simp
 .rw[dF0 h,dF0 λz=>h (NK.key.inj z)]
def Wv(a)(b):decide (NK.key a=NK.tup b)=false:=dF0 λz=>nomatch z
def Ww(a)(b):decide (NK.tup b=NK.key a)=false:=dF0 λz=>nomatch z
def Wx(a b):decide (NK.tup a=NK.tup b)=decide (a=b):=by
 by_cases h:a=b
 .subst h;simp
 .rw[dF0 h,dF0 λz=>h (NK.tup.inj z)]
def SE(h:(mk prog w).is k v=true): ∃x:V,RelV x v/\oY x=true:=by
 rcases pC h with⟨i,t,rfl,rfl⟩|⟨x,t,rfl,rfl⟩|⟨rfl,rfl⟩
 .exact⟨.int i,⟨t,rfl⟩,rfl⟩
 .exact⟨.str x,⟨t,rfl⟩,rfl⟩
 .exact⟨.non,rfl,rfl⟩
def Ci
  (he: ∀G∈x, ∀I u v  Q ,KI (mk prog w) s.heap G u->KI (mk prog w) s.heap I v->Q (decide (G=I)) s->wpAny ↑6 A (eqBool u v) Q E s)
  (hx:KI (mk prog w) s.heap (.tup x) (.ref a)) (hy:KI (mk prog w) s.heap (.tup y) (.ref b)) (h:P (.done (.ret (.bool (decide (x=y))))) s):
  wpAny ↑6 A (Builtin.«tuple.__eq__» ⟨[.ref a,.ref b],[]⟩) P E s:=by
 refine(xL.mp hx).o λ_ oa xs na e S _ T L=>?_;cases e;refine(xL.mp hy).o λ_ ob ys nb e M _ U O=>?_;cases e;show wpAny _ _ (isInstance _ _ >>= _) _ _ s;refine wB (Ě (BB hy) isSubtype_tuple_tuple ?_);refine wB (wpAny_tupleItemsOf S T ?_);refine wB (wpAny_tupleItemsOf M U ?_);refine wB ?_
 refine wpAny_forIn_list _
  (λrest r K=>r.1=none/\K=s/\ ∃B F p j,rest=List.zip p j/\(∀k∈B,k∈x)/\sE _ s.heap B p/\sE _ s.heap F j/\decide (B=F)=decide _/\(p.length==↑44)=(xs.size==ys.size))
  _ ?_ ?_ _ _ ⟨rfl,rfl,x,y,_,_,rfl,λk D=>D,L,O,rfl,by simp⟩
 .rintro⟨u,v⟩ rest r K ⟨X,rfl,B,F,p,j,C,hm,o,c,d,n⟩
  cases B with
  |nil=>rw[wH.mp o]at C;simp at C
  |cons G x''=>
   cases F with
   |nil=>rw[wH.mp c]at C;simp at C
   |cons I y''=>
    rw[31];refine(yL.mp o).c λu' z g W q=>?_;subst g;refine(yL.mp c).c λY m V N i=>?_;subst V;obtain⟨⟨rfl,rfl⟩,rfl⟩:=C;refine bw ?_;refine wB (he G (hm G mF0) I _ _ _ W N ?_);by_cases D:G=I
    .subst D;simp only[fT];refine wP ⟨rfl,rfl,x'',y'',z,m,rfl,λk D=>hm k (mO _ D),q,i,?_,by simpa using n⟩;rw[<-d];by_cases J:x''=y''
     .simp[J]
     .simp[J]
    .rw[dF0 D];have Z:decide (x=y)=false:=by rw[<-d];simp[D]
     rw[Z]at h;exact wB (wP (wP (wP h)))
 .rintro⟨r1,r2⟩ K ⟨X,rfl,B,F,p,j,C,hm,o,c,d,n⟩;subst X;refine wP ?_
  have H:(xs.size==ys.size)=decide (x=y):=by
   rw[<-d, <-n]
   cases B with
   |nil=>
    rw[wH.mp o]
    cases F with
    |nil=>rw[wH.mp c];simp
    |cons I y''=>refine(yL.mp c).c λY m Y N i=>?_;subst Y;simp
   |cons G x''=>
    refine(yL.mp o).c λu' z ac W q=>?_;subst ac
    cases F with
    |nil=>rw[wH.mp c];simp
    |cons I y''=>refine(yL.mp c).c λY m ad N i=>?_;subst ad;simp at C
  show P (.done (.ret (.bool _))) K;rw[H];exact h
theorem HS: ∀{ks},rO ks<=n-> ∀k∈ks,eM k<=n
 |[],_,k,hk=>by simp at hk
 |x::xs,hx,k,hk=>by
  rw[qC]at hx;rcases mC.mp hk with rfl|hk
  .lia
  .exact HS #[0] k hk
theorem SF: ∀ n {A}{E}{s}{x y}{u v}{Q},eM x<=n->A.units+n<cLine->KI (mk prog w) s.heap x u->KI (mk prog w) s.heap y v->Q (decide (x=y)) s->wpAny ↑6 A (eqBool u v) Q E s
 |n,A,E,s,.key a,.key b,u,v,Q,_,_,hx,hy,h=>(mk prog w).eqBool (xW.mp hx) (xW.mp hy) (by rw[Np]at h;exact h)
 |n,A,E,s,.key a,.tup b,u,v,Q,_,hu,hx,hy,h=>by obtain⟨z,q,j⟩:=SE (xW.mp hx);refine(xL.mp hy).o λl o _ m K p i d _=>?_;subst K;rw[Wv]at h;exact(FE q j ⟨o,p,i,m,d⟩ #[0]).2.1 prog w E Q h
 |n,A,E,s,.tup a,.key b,u,v,Q,_,hu,hx,hy,h=>by obtain⟨z,q,j⟩:=SE (xW.mp hy);refine(xL.mp hx).o λl o _ m L p i d _=>?_;subst L;rw[Ww]at h;exact(FE q j ⟨o,p,i,m,d⟩ #[0]).1 prog w E Q h
 |0,A,E,s,.tup a,.tup b,u,v,Q,d,_,hx,hy,h=>by rw[nV]at d;lia
 |n+1,A,E,s,.tup x,.tup y,u,v,Q,d,hu,hx,hy,h=>by
  refine(xL.mp hx).j λa _ _ _ g=>g.elim λG _=>?_;refine(xL.mp hy).j λb _ _ _ J=>J.elim λD _=>?_;subst G D;rw[nV]at d;rw[Wx]at h;unfold eqBool
  try with_reducible refine ù ?_
  by_cases c:(Value.ref a==Value.ref b)=true
  .rw[iP c];have e:=by have:=eq_of_beq c;injection this
   subst e;have:=NK.tup.inj (OM hx hy);subst this;exact wB (Ğ (wP (by simpa using h)))
  .rw[iN c]
   refine wB (wpAny_richCompare_same_room (BB hx) (BB hy) F.slot_tuple_eq
    (ë F.slot_tuple_eq (BB hx) F.entry_tuple_eq (Ci (λr k I u v Q B C H=>SF n (HS #[0] r k) #[0] B C H) hx hy (ZB _ rfl (λe=>nomatch e) (ć h))) (F.args_tuple_eq_2 _ _)) #[0])
theorem YY: ∀ n m {A}{E}{s}{x}{u}{Q},eM x<=n->n<m->KI (mk prog w) s.heap x u->Q true s->wpAny ↑6 A (eqIsQuiet m u) Q E s
 |n,m,A,E,s,.key k,u,Q,_,_,hx,h=>by rw[eqIsQuiet_byValue m ((mk prog w).byValue _ _ (xW.mp hx))];exact wP h
 |0,m,A,E,s,.tup ks,u,Q,q,_,hx,h=>by rw[nV]at q;lia
 |n+1,0,A,E,s,.tup ks,u,Q,q,hm,hx,h=>by lia
 |n+1,m+1,A,E,s,.tup ks,u,Q,hdp,hm,hx,h=>by
  refine(xL.mp hx).o λa o _ j g z G q hi=>?_;subst g;have hT:s.TypeIs (.ref a) "tuple":=(Z3 o z G)
  rw[nV]at hdp;unfold eqIsQuiet;refine wB (wpAny_specialOf hT F.slot_tuple_eq.lookup ?_);refine wB (Ě hT isSubtype_tuple_tuple ?_);refine wB (ĕ z q ?_);refine wB ?_;rw[<-Array.forIn_toList];refine wpAny_forIn_list _ (λrest r d=>r.1=none/\d=s/\ ∃left,(∀k∈left,k∈ks)/\sE _ s.heap left rest) _ ?_ ?_ _ _ ⟨rfl,rfl,ks,λk i=>i,hi⟩
  .rintro v rest r d ⟨p,rfl,left,b,c⟩
   cases left with
   |nil=>rw[wH]at c;cases c
   |cons k left=>
    refine(yL.mp c).c λH D e y B=>?_;cases e;refine wB (YY n m (HS #[0] k (b k mF0)) #[0] y ?_);exact wP ⟨rfl,rfl,left,λk i=>b k (mO _ i),B⟩
  .rintro⟨C,I⟩ d ⟨p,rfl,_⟩;subst p;exact wP h
end
def yC(prog)(w):HeapKind prog w NK where
 is:=λh k a=>KI (mk prog w) h k (.ref a)/\eM k<=4
 hash:=FF (mk prog w)
 draws:=HN
 room:=λA=>A.units+4<cLine
 inj:=λhx hy=>OM hx.1 hy.1
 keeps:=λx ho hd hs=>⟨HP (λa o' items n e q=>(hs.2 a λz=>by subst z;rw[ho]at e;cases e;rw[hd]at q;cases q).trans e) x.1,x.2⟩
 pyHash:=λhu hk h=>SD 4 hk.2 hu hk.1 h
 eqBool:=λhu hx hy h=>SF 4 hx.2 hu hx.1 hy.1 h
 quiet:=λhk h=>YY 4 8 hk.2 ↑11 hk.1 h
noncomputable def DN(P:ŕ)(w:World)(a:Addr)(xs:↑46):HO:=
 .ext λh=>↑8<=sizeLine/\(a==sysModules)=false/\ ∃o es b,h.get? a=some o/\o.ExactDict/\o.data=.dict es b/\es.toList=xs.map (entryOfKey (yC P w))/\(xs.map (·.1)).Nodup
end M
end L2
namespace L2
open PySem PySem.Spec PyProof.Rows
def Fly(h:Heap)(e T:Addr)(cls:Ŕ)(d:Option Addr)(c:Ŕ):Prop:=
 ∃a vs b ts,h.get? e=some a/\a.cls=cls/\a.dict=d/\a.data=.fields vs/\vs[1]? =some (.ref T)/\T≠e/\h.get? T=some b/\b.data=.fields ts/\ts[3]? =some c/\vs[2]? =some .none
structure Mvd(fs:B9)(e T:Addr)(h h':Heap):Prop where
 keep: ∀b o,b≠e->b≠T->b∉fs->h.get? b=some o->h'.get? b=some o
 slot: ∀b o,b≠e->b≠T->h.get? b=some o-> ∃sl,h'.get? b=some {o with slots:=sl}
 there: ∀b o,h.get? b=some o-> ∃o',h'.get? b=some o'
def Mvd.new(a:Mvd fs e T h j)(n:h.get? T'=none)(b:Mvd fs e T' j m):Mvd fs e T h m:=by
 have ne: ∀c o,h.get? c=some o->c≠T':=λc o q z=>by rw[z,n]at q;cases q
 exact⟨λc o j m k q=>b.keep c o j (ne c o q) k (a.keep c o j m k q),λc o j m q=>by obtain⟨sl,i⟩:=a.slot c o j m q;obtain⟨d,p⟩:=b.slot c _ j (ne c o q) i;exact⟨d,p⟩,λc o q=>let ⟨r,i⟩:=a.there c o q;b.there c r i⟩
def CXe(P:ŕ)(w:World):Bx:=λa H s E x b=> ∃e T C d H',x=.ref e/\b.os=s.os/\AllBare b.gens/\Un (Ez a) [] H H' s.heap b.heap/\HOk P w H' b.heap/\Fly b.heap e T (.ref C) d .none/\
 s.heap.get? e=none/\s.heap.get? T=none/\H' e=none/\H' T=none/\E (.ref C) d H'
noncomputable abbrev zBW:List Value:=[.type "ValueError",.type "Exception",.type "BaseException",.type "object"]
noncomputable def qn:List Str:=["__class__","__getattribute__","__getattr__","__setattr__","place","number"]
end L2
namespace L2
namespace M
open PySem PySem.Spec PyProof.Rows
inductive MV where
 |non|bl (b:Bool)|int (i:Int)|str (x:Db)|tup (ds:List MV)|scr (ds:List MV)|loc (l:Nat)|typ (n:String)|obj (c:Str) (ns:C0) (ds:List MV)
abbrev X0:=List MV
abbrev Y0:=Option MV
abbrev zA1:=List (Nat×List MV)
abbrev zA2:=List (MV×MV)
abbrev zA3:=List (List MV)
instance:Inhabited MV:=⟨.non⟩
inductive MO where
 |lst (ds:X0)|dic (kvs:zA2)|ins (c:Str) (fs:List (Str×MV))|rcd (c:Str) (fs:List (Str×MV))|fdc (kvs:zA2)
abbrev Sto:=List MO
def SqF(K:U0)(H:Hp)(a:Addr)(xs:List V):Prop:=
 (∃o,H a=some (.frz o (.lst xs)))\/
  ∃(o:Obj)(b:B0)(n:Nat),K.lookup a=some o/\o.cls=.type "list"/\o.dict=none/\o.data=.seq b n/\b.size<=sizeLine/\Vals xs b.toList
def SqF.l{K:U0}(h:SqF K H a xs):SqL K H a xs:=by
 rcases h with⟨o,h⟩|h
 .exact .inl (.inr ⟨o,h⟩)
 .exact .inr h
mutual
def Den(K:U0)(α:B9)(H:Hp):MV->V->Prop
 |.non,v=>v=.non
 |.bl b,v=>v=.bl b
 |.int i,v=>v=.int i
 |.str x,v=>v=.str (bC x)
 |.tup ds,v=> ∃a vs,v=.ref a/\SqT K H a vs/\DenL K α H ds vs
 |.scr ds,v=> ∃a vs,v=.ref a/\SqF K H a vs/\DenL K α H ds vs
 |.loc l,v=> ∃a,v=.ref a/\α[l]? =some a
 |.typ n,v=>v=.ty n
 |.obj c ns ds,v=> ∃a C j vs o,v=.ref a/\H a=some (.frz o (.ins C j (ns.zip vs)))/\PySem.W.nsIn K mainGlobals c=some (some (.ref C))/\(PySem.W.clsIn K C).map (·.name)=some c/\ns.length=vs.length/\DenL K α H ds vs
def DenL(K:U0)(α:B9)(H:Hp):List MV->List V->Prop
 |[],vs=>vs=[]
 |d::ds,vs=> ∃v r,vs=v::r/\Den K α H d v/\DenL K α H ds r
end
structure Ex0(α:B9)(H:Hp)(α':B9)(H':Hp):Prop where
 pre: ∃t,α'=α++t
 tup: ∀b xs,H b=some (.tup xs)->H' b=some (.tup xs)
 frz: ∀b o u,H b=some (.frz o u)->H' b=some (.frz o u)
structure Ext(α:B9)(H:Hp)(α':B9)(H':Hp):Prop extends Ex0 α H α' H' where
 new: ∀b∈α',b∈α\/H b=none
 keep: ∀b o,H b=some o->b∉α->H' b=some o
 has: ∀b o,H b=some o-> ∃o',H' b=some o'
section
variable{K:U0}{α α':B9}{H H':Hp}
def Ext.refl(α)(H):Ext α H α H:=⟨⟨⟨[],by simp⟩,λ_ _ h=>h,λ_ _ _ h=>h⟩,λb h=>.inl h,λ_ _ h _=>h,λ_ o h=>⟨o,h⟩⟩
def Ex0.grow(α t)(H):Ex0 α H (α++t) H:=⟨⟨t,rfl⟩,λ_ _ h=>h,λ_ _ _ h=>h⟩
def Ext.free(x:Ext α H α' H')(h:H' b=none):H b=none:=by
 cases e:H b with
 |none=>rfl
 |some o=>obtain⟨a,h'⟩:=x.has b o e;rw[h]at h';cases h'
def Ext.out(x:Ext α H α' H')(h:H b=some o)(n:b∉α):b∉α':=λz=>by
 rcases x.new b z with z|z
 .exact n z
 .rw[h]at z;cases z
def Ext.trans(x:Ext α H α' H')(y:Ext α' H' α'' H''):Ext α H α'' H'' where
 pre:=by obtain⟨t,rfl⟩:=x.pre;obtain⟨u,rfl⟩:=y.pre;exact⟨_,by rw[aA]⟩
 new:=λb h=>(y.new b h).elim (x.new b) λz=>.inr (x.free z)
 keep:=λb o h n=>y.keep b o (x.keep b o h n) (x.out h n)
 has:=λb o h=>let ⟨o',h'⟩:=x.has b o h;y.has b o' h'
 tup:=λb xs h=>y.tup b xs (x.tup b xs h)
 frz:=λb o u h=>y.frz b o u (x.frz b o u h)
def Ex0.at(x:Ex0 α H α' H'){l:Nat}(h:α[l]? =some a):α'[l]? =some a:=by obtain⟨t,rfl⟩:=x.pre;rw[â (gS.mp h).1];exact h
def Ex0.sqT(x:Ex0 α H α' H')(q:SqT K H a vs):SqT K H' a vs:=by
 rcases q with(q|⟨o,q⟩)|q
 .exact .inl (.inl (x.tup a vs q))
 .exact .inl (.inr ⟨o,x.frz a o _ q⟩)
 .exact .inr q
def Ex0.sqF(x:Ex0 α H α' H')(q:SqF K H a vs):SqF K H' a vs:=by
 rcases q with⟨o,q⟩|q
 .exact .inl ⟨o,x.frz a o _ q⟩
 .exact .inr q
mutual
theorem Den.ex0(x:Ex0 α H α' H'): ∀{d:MV}{v:V},Den K α H d v->Den K α' H' d v
 |.non,_,q=>by unfold Den at q ⊢; exact q
 |.bl _,_,q=>by unfold Den at q ⊢; exact q
 |.int _,_,q=>by unfold Den at q ⊢; exact q
 |.str _,_,q=>by unfold Den at q ⊢; exact q
 |.typ _,_,q=>by unfold Den at q ⊢; exact q
 |.obj c ns ds,_,q=>by unfold Den at q ⊢;obtain⟨a,C,m,vs,o,e,h,hn,u,j,l⟩:=q;exact⟨a,C,m,vs,o,e,x.frz a _ _ h,hn,u,j,DenL.ex0 x l⟩
 |.loc _,_,q=>by unfold Den at q ⊢;obtain⟨a,e,h⟩:=q;exact⟨a,e,x.at h⟩
 |.tup ds,_,q=>by unfold Den at q ⊢;obtain⟨a,vs,e,s,l⟩:=q;exact⟨a,vs,e,x.sqT s,DenL.ex0 x l⟩
 |.scr ds,_,q=>by unfold Den at q ⊢;obtain⟨a,vs,e,s,l⟩:=q;exact⟨a,vs,e,x.sqF s,DenL.ex0 x l⟩
theorem DenL.ex0(x:Ex0 α H α' H'): ∀{ds:X0}{vs:List V},DenL K α H ds vs->DenL K α' H' ds vs
 |[],_,q=>by unfold DenL at q ⊢; exact q
 |d::ds,_,q=>by unfold DenL at q ⊢;obtain⟨v,r,e,a,l⟩:=q;exact⟨v,r,e,Den.ex0 x a,DenL.ex0 x l⟩
end
def Den.ext(x:Ext α H α' H')(q:Den K α H d v):Den K α' H' d v:=q.ex0 x.toEx0
def DenL.ext(x:Ext α H α' H')(q:DenL K α H d v):DenL K α' H' d v:=q.ex0 x.toEx0
theorem uF:Den K α H .non .non:=by unfold Den;rfl
theorem wN(b):Den K α H (.bl b) (.bl b):=by unfold Den;rfl
theorem xM(i):Den K α H (.int i) (.int i):=by unfold Den;rfl
theorem mE(x):Den K α H (.str x) (.str (bC x)):=by unfold Den;rfl
theorem YZ(n):Den K α H (.typ n) (.ty n):=by unfold Den;rfl
def eO(s:SqT K H a vs)(l:↑73):Den K α H (.tup ds) (.ref a):=by unfold Den;exact Z0 a vs rfl s l
def ZA(s:SqF K H a vs)(l:↑73):Den K α H (.scr ds) (.ref a):=by unfold Den;exact Z0 a vs rfl s l
def qD(h:α[l]? =some a):Den K α H (.loc l) (.ref a):=by unfold Den;exact⟨a,rfl,h⟩
def aL(d:Den K α H .non v):v=.non:=by unfold Den at d;exact d
def pD(d:Den K α H (.bl b) v):v=.bl b:=by unfold Den at d;exact d
def xR(d:Den K α H (.int i) v):v=.int i:=by unfold Den at d;exact d
def xE(d:Den K α H (.str x) v):v=.str (bC x):=by unfold Den at d;exact d
def Nq(h:H a=some (.frz o (.ins C dx (ns.zip vs))))(hn:PySem.W.nsIn K mainGlobals c=some (some (.ref C)))(d:(PySem.W.clsIn K C).map (·.name)=some c)(b:ns.length=↑10)(l:↑73):Den K α H (.obj c ns ds) (.ref a):=by unfold Den;exact XL a C dx vs o rfl h hn d b l
def cQ(d:Den K α H (.obj c ns ds) v): ∃a C j vs o,v=.ref a/\H a=some (.frz o (.ins C j (ns.zip vs)))/\PySem.W.nsIn K mainGlobals c=some (some (.ref C))/\(PySem.W.clsIn K C).map (·.name)=some c/\ns.length=↑10/\DenL K α H ds vs:=by unfold Den at d;exact d
def cR(d:Den K α H (.typ n) v):v=.ty n:=by unfold Den at d;exact d
def yQ(d:Den K α H (.tup ds) v): ∃a vs,v=.ref a/\SqT K H a vs/\DenL K α H ds vs:=by unfold Den at d;exact d
def cS(d:Den K α H (.scr ds) v): ∃a vs,v=.ref a/\SqF K H a vs/\DenL K α H ds vs:=by unfold Den at d;exact d
def bE(d:Den K α H (.loc l) v): ∃a,v=.ref a/\α[l]? =some a:=by unfold Den at d;exact d
theorem zZ:DenL K α H [] []:=by unfold DenL;rfl
def zQ(a:Den K α H d v)(l:↑73):DenL K α H (d::ds) (v::vs):=by unfold DenL;exact Z0 v vs rfl a l
def DenL.uncons(l:DenL K α H (d::ds) vs): ∃v r,vs=v::r/\Den K α H d v/\DenL K α H ds r:=by unfold DenL at l;exact l
def DenL.isnil(l:DenL K α H [] vs):vs=[]:=by unfold DenL at l;exact l
theorem DenL.length: ∀{ds}{vs},DenL K α H ds vs->↑10=↑12
 |[],_,q=>by rw[q.isnil];rfl
 |d::ds,_,q=>by refine q.uncons.c λv r a _ l=>?_;subst a;rw[lC,lC,DenL.length l]
theorem DenL.append: ∀{ds es}{vs us},DenL K α H ds vs->DenL K α H es us->DenL K α H (ds++es) (vs++us)
 |[],_,_,_,q,l=>by rw[q.isnil];exact l
 |d::ds,_,_,_,q,l=>by refine q.uncons.c λv r b a j=>?_;subst b;exact zQ a (DenL.append j l)
theorem DenL.drop: ∀{ds}{vs} n ,DenL K α H ds vs->DenL K α H (ds.drop n) (vs.drop n)
 |_,_,0,q=>q
 |[],_,n+1,q=>by rw[q.isnil];exact zZ
 |d::ds,_,n+1,q=>by refine q.uncons.c λv r a _ l=>?_;subst a;exact DenL.drop n l
theorem DenL.take: ∀{ds}{vs} n ,DenL K α H ds vs->DenL K α H (ds.take n) (vs.take n)
 |_,_,0,q=>zZ
 |[],_,n+1,q=>by rw[q.isnil];exact zZ
 |d::ds,_,n+1,q=>by refine q.uncons.c λv r b a l=>?_;subst b;exact zQ a (DenL.take n l)
theorem DenL.set(a:Den K α H d v): ∀{ds}{vs} n ,DenL K α H ds vs->DenL K α H (ds.set n d) (vs.set n v)
 |[],_,_,q=>by rw[q.isnil];exact zZ
 |e::ds,_,0,q=>by refine q.uncons.c λm r b j l=>?_;subst b;exact zQ a l
 |e::ds,_,n+1,q=>by refine q.uncons.c λm r c j l=>?_;subst c;exact zQ j (DenL.set a n l)
theorem DenL.get: ∀{ds}{vs}{i:Nat}{v},DenL K α H ds vs->vs[i]? =some v-> ∃d,ds[i]? =some d/\Den K α H d v
 |[],_,_,_,q,e=>by rw[q.isnil]at e;simp at e
 |d::ds,_,0,_,q,e=>by refine V0 λk=>?_;refine q.uncons.c λv r g a l=>?_;subst g;simp at e;subst e;refine k ?_;exact⟨d,rfl,a⟩
 |d::ds,_,i+1,_,q,e=>by refine q.uncons.c λv r j a l=>?_;subst j;refine(DenL.get l (by simpa using e)).a λh b c=>?_;exact⟨h,by simpa using b,c⟩
def DenL.at{i:Nat}(q:↑73)(e:ds[i]? =some d): ∃v,vs[i]? =some v/\Den K α H d v:=by
 have hv:i<vs.length:=by rw[q.length];exact((gS.mp e).1)
 refine(q.get (gE hv)).a λc a b=>?_;rw[e]at a;cases a;exact Z3 _ (gE hv) b
def DenL.cut(q:↑73)(lo hi):DenL K α H (rY ds lo hi) (Bz vs lo hi):=by unfold rY Bz;rw[q.length];exact(q.drop _).take _
theorem LV: ∀(j:Za),DenL K α H (j.map MV.int) (j.map V.int)
 |[]=>zZ
 |b::bs=>zQ (xM b) (LV bs)
end
structure Gm where
 K:PySem.W.Frag
 mg:Str->Option Ŕ
 P:ŕ
 w:World
abbrev _root_.L2.Cx.g(X:Cx):Gm:=⟨X.K,X.mg,X.prog,X.w⟩
inductive DenF(K:U0)(α:B9)(H:Hp):List (Str×MV)->List (Str×V)->Prop
 |nil:DenF K α H [] []
 |cons {x:Str} {d:MV} {v:V} {fs gs}:Den K α H d v->DenF K α H fs gs->DenF K α H ((x,d)::fs) ((x,v)::gs)
theorem DenF.ex0{K:U0}(x:Ex0 α H α' H'): ∀{fs j},DenF K α H fs j->DenF K α' H' fs j
 |_,_,.nil=>.nil
 |_,_,.cons a l=>.cons (a.ex0 x) (DenF.ex0 x l)
def KeyD:MV->Key->Prop
 |.int i,k=>k=.inl i
 |.str x,k=>k=.inr (bC x)
 |_,_=>False
inductive DenK(K:U0)(α:B9)(H:Hp):List (MV×MV)->List (Key×V)->Prop
 |nil:DenK K α H [] []
 |cons {k:MV} {k':Key} {d:MV} {v:V} {fs gs}:KeyD k k'->Den K α H d v->DenK K α H fs gs->DenK K α H ((k,d)::fs) ((k',v)::gs)
theorem DenK.ex0{K:U0}(x:Ex0 α H α' H'): ∀{fs j},DenK K α H fs j->DenK K α' H' fs j
 |_,_,.nil=>.nil
 |_,_,.cons k a l=>.cons k (a.ex0 x) (DenK.ex0 x l)
mutual
def yY:MV->Option NK
 |.non=>some (.key none)
 |.int i=>some (.key (some (.inl i)))
 |.str x=>some (.key (some (.inr (bC x))))
 |.tup ds=>(kD ds).map .tup
 |_=>none
def kD:List MV->Option (List NK)
 |[]=>some []
 |d::ds=>(yY d).bind λk=>(kD ds).map (k::·)
end
inductive DenN(K:U0)(α:B9)(H:Hp):List (MV×MV)->List (NK×Addr×Ŕ)->Prop
 |nil:DenN K α H [] []
 |cons {k:MV} {nk:NK} {a:Addr} {d:MV} {v:V} {u:Ŕ} {fs xs}:yY k=some nk->eM nk<=4->Den K α H k (.ref a)->Den K α H d v->RelV v u->DenN K α H fs xs->DenN K α H ((k,d)::fs) ((nk,a,u)::xs)
theorem DenN.ex0{K:U0}(x:Ex0 α H α' H'): ∀{fs xs},DenN K α H fs xs->DenN K α' H' fs xs
 |_,_,.nil=>.nil
 |_,_,.cons k e a d r l=>.cons k e (a.ex0 x) (d.ex0 x) r (DenN.ex0 x l)
def ObD(g:Gm)(α:B9)(H:Hp)(a:Addr):MO->Prop
 |.lst ds=> ∃vs,H a=some (.lst vs)/\DenL g.K α H ds vs
 |.dic kvs=>(∃ks,H a=some (.dK ks)/\DenK g.K α H kvs ks)\/ ∃xs,H a=some (DN g.P g.w a xs)/\DenN g.K α H kvs xs
 |.ins c fs=> ∃C m,g.mg c=some (.ref C)/\DenF g.K α H fs m/\
   ∃j,H a=some (.frz j (.ext λh=>h.get? a=some j))/\j.cls=.ref C/\(fs=[]\/ ∃q u,j.dict=some q/\H q=some (.frz u (.xd m))/\ ∃vs,j.data=.fields vs)
 |.rcd c fs=> ∃C q m,PySem.W.nsIn g.K mainGlobals c=some (some (.ref C))/\H a=some (.ins C q m)/\DenF g.K α H fs m
 |.fdc kvs=> ∃j xs,H a=some (.frz j (DN g.P g.w a xs))/\DenN g.K α H kvs xs
def ObD.there(h:ObD g α H a o): ∃j,H a=some j/\(∀xs,j≠.tup xs)/\ ∀ob u,j=.frz ob u-> ∃m,u=.ext m:=by
 cases o with
 |lst ds=>refine h.a λvs h _=>?_;exact ZB _ h (λxs z=>by cases z) (λ_ _ z=>by cases z)
 |dic ds=>
  rcases h with⟨vs,h,_⟩|⟨vs,h,_⟩
  .exact(ZB _ h (λxs z=>by cases z) (λ_ _ z=>by cases z))
  .exact(ZB _ h (λxs z=>by cases z) (λ_ _ z=>by cases z))
 |ins c ds=>
  obtain⟨_,_,_,_,_,h,_⟩:=h;exact ZB _ h (λxs z=>by cases z) (λ_ _ z=>by cases z;exact⟨_,rfl⟩)
 |rcd c ds=>refine h.g λ_ _ _ b=>b.e λ_ h _=>?_;exact ZB _ h (λxs z=>by cases z) (λ_ _ z=>by cases z)
 |fdc kvs=>refine h.d λ_ _ h _=>?_;exact ZB _ h (λxs z=>by cases z) (λ_ _ z=>by cases z;exact⟨_,rfl⟩)
def ObD.move(h:ObD g α H a o)(x:Ex0 α H α' H')(e:H' a=H a):ObD g α' H' a o:=by
 cases o with
 |lst ds=>refine h.a λvs h l=>?_;exact Z3 vs (e.trans h) (l.ex0 x)
 |dic ds=>
  rcases h with⟨vs,h,l⟩|⟨vs,h,l⟩
  .exact .inl ⟨vs,e.trans h,l.ex0 x⟩
  .exact .inr ⟨vs,e.trans h,l.ex0 x⟩
 |ins c ds=>
  obtain⟨C,d,m,l,b,h,q,r⟩:=h;exact⟨C,d,m,l.ex0 x,b,e.trans h,q,r.imp id λ⟨i,j,k,n,p⟩=>(Z0 i j k (x.frz _ _ _ n) p)⟩
 |rcd c ds=>refine h.g λC i d u=>u.e λm h l=>?_;exact YR C i d ⟨m,e.trans h,l.ex0 x⟩
 |fdc kvs=>refine h.d λb xs h l=>?_;exact YS b xs (e.trans h) (l.ex0 x)
structure Wd(g:Gm)(α:B9)(S:Sto)(H:Hp):Prop where
 len:α.length=↑1
 nd:α.Nodup
 obj: ∀(l:Nat)(a:Addr)(o:MO),α[l]? =some a->S[l]? =some o->ObD g α H a o
section
variable{H:Hp}
def Wd.at(w:Wd g α S H){l:Nat}(h:S[l]? =some o): ∃a,α[l]? =some a/\ObD g α H a o:=by
 have b:l<α.length:=by rw[w.len];exact(gS.mp h).1
 exact⟨α[l],gE b,w.obj l _ o (gE b) h⟩
def Wd.of(w:Wd g α S H){l:Nat}(h:α[l]? =some a): ∃o,S[l]? =some o/\ObD g α H a o:=by
 have b:l<S.length:=by rw[<-w.len];exact(gS.mp h).1
 exact Z3 (S[l]) (gE b) (w.obj l a _ h (gE b))
def Wd.mem(w:Wd g α S H)(h:a∈α): ∃j,H a=some j/\(∀xs,j≠.tup xs)/\ ∀ob u,j=.frz ob u-> ∃m,u=.ext m:=by obtain⟨l,b⟩:=getElem?_of_mem h;refine(w.of b).a λo _ q=>?_;exact q.there
def Wd.newx(w:Wd g α S H)(hp:H p=none):Ext α H α (xV H p o) where
 pre:=⟨[],by simp⟩
 new:=λb h=>.inl h
 keep:=λb o h _=>by rw[zH (zN h hp)];exact h
 has:=λb o h=>⟨o,by rw[zH (zN h hp)];exact h⟩
 tup:=λb o h=>by rw[zH (zN h hp)];exact h
 frz:=λb o u h=>by rw[zH (zN h hp)];exact h
def Wd.fresh(w:Wd g α S H)(a:H p=none):p∉α:=λz=>by refine(w.mem z).a λ_ h _=>?_;rw[a]at h;cases h
def Wd.new(w:Wd g α S H)(b:H p=none):Wd g α S (xV H p o):=
 ⟨w.len,w.nd,λl a d c e=>(w.obj l a d c e).move (w.newx b).toEx0 (zH λz=>w.fresh b (by rw[<-z];exact è c))⟩
def Lz(h:H a=some ho)(n: ∀ob u,ho≠.frz ob u:=by intro _ _ z;cases z): ∀ob u,H a≠some (.frz ob u):=λob u z=>n ob u (ä (h.symm.trans z))
def Wd.writex(w:Wd g α S H){l:Nat}(h:α[l]? =some a)(nf: ∀ob u,H a≠some (.frz ob u)):Ext α H α (xV H a o) where
 pre:=⟨[],by simp⟩
 new:=λb h=>.inl h
 keep:=λb o e n=>by rw[zH λz=>n (by rw[z];exact è h)];exact e
 has:=λb o e=>by
  by_cases z:b=a
  .subst z;exact⟨_,zO⟩
  .exact⟨o,by rw[zH z];exact e⟩
 tup:=λb xs e=>by refine(w.mem (è h)).b λho h1 h2 _=>?_;rw[zH λz=>h2 xs (by subst z;rw[e]at h1;exact(ä h1).symm)];exact e
 frz:=λb ob u e=>by rw[zH λz=>nf ob u (by rw[<-z];exact e)];exact e
def Wd.ne(w:Wd g α S H){l:Nat}(h:α[l]? =some a)(h':α[m]? =some b)(n:l≠m):a≠b:=by rintro rfl;obtain⟨e,d⟩:=gS.mp h;obtain⟨i,c⟩:=gS.mp h';exact n ((getElem_inj w.nd).mp (d.trans c.symm))
def Wd.write(w:Wd g α S H)(h:α[l]? =some a)(nf: ∀ob u,H a≠some (.frz ob u))(q:ObD g α (xV H a o) a ob):Wd g α (S.set l ob) (xV H a o) where
 len:=by rw[ċ];exact w.len
 nd:=w.nd
 obj:=λm b ob' h1 h2=>by
  by_cases e:l=m
  .subst e;rw[h]at h1;rw[ğ (by rw[<-w.len];exact(gS.mp h).1)]at h2;rw[<-ä h1, <-ä h2];exact q
  .rw[Ġ e]at h2;exact(w.obj m b ob' h1 h2).move (w.writex h nf).toEx0 (zH (w.ne h1 h λz=>e z.symm))
def Wd.enterx(w:Wd g α S H)(x:Ext α0 H0 α H)(h0:H0 b=none)(n:b∉α):Ext α0 H0 (α++[b]) H where
 pre:=let ⟨t,e⟩:=x.pre;⟨_,by rw[e,aA]⟩
 new:=λc hc=>(ê.mp hc).elim (x.new c) λz=>.inr (by rw[mS.mp z];exact h0)
 keep:=x.keep
 has:=x.has
 tup:=x.tup
 frz:=x.frz
theorem Wd.enter(w:Wd g α S H)(h:H b=some (.lst vs))(n:b∉α)(l:DenL g.K α H ds vs):Wd g (α++[b]) (S++[.lst ds]) H where
 len:=by rw[lA,lA,w.len];rfl
 nd:=ĥ.mpr ⟨w.nd,by simp,λa ha c hc=>by rw[mS.mp hc];rintro rfl;exact n ha⟩
 obj:=λm a o h1 h2=>by
  by_cases hm:m<α.length
  .rw[â hm]at h1;rw[â (by rw[<-w.len];exact hm)]at h2;exact(w.obj m a o h1 h2).move (Ex0.grow α [b] H) rfl
  .have hm':m=α.length:=by
    have:=(gS.mp h1).1;rw[lA,lS]at this
    lia
   subst hm';rw[æ (à _),sub_self]at h1;rw[æ (by rw[w.len];exact à _),w.len,sub_self]at h2;cases h1;cases h2;exact Z3 vs h (l.ex0 (Ex0.grow α [b] H))
end
inductive R(β:Type) where
 |ok (b:β) (S:Sto)|exc (c:Str) (fs:List (Str×MV)) (S:Sto)|no
def R.bind:R β->(β->Sto->R γ)->R γ
 |.ok b S,k=>k b S
 |.exc c fs S,_=>.exc c fs S
 |.no,_=>.no
theorem R.bind_ok(b)(S)(k:β->Sto->R γ):(R.ok b S).bind k=k b S:=rfl
inductive Er where
 |val (d:MV)|new (ds:X0)
instance:Inhabited Er:=⟨.val .non⟩
def DenX(K:U0)(α:B9)(H:Hp):Er->V->Prop
 |.val d,v=>Den K α H d v
 |.new ds,v=> ∃b vs,v=.ref b/\H b=some (.lst vs)/\b∉α/\DenL K α H ds vs
def DenE(K:U0)(H:Hp)(α':B9)(H':Hp)(r:Er)(v:V):Prop:=DenX K α' H' r v/\match r with |.new _=> ∀a,v=.ref a->H a=none|_=>True
section
variable{K:U0}
def DenX.ext(x:Ext α H α' H'): ∀{r}{v},DenX K α H r v->DenX K α' H' r v
 |.val d,_,q=>Den.ext x q
 |.new ds,_,⟨b,vs,e,h,n,l⟩=>(Ym b vs e (x.keep b _ h n) (x.out h n) (l.ext x))
def DenE.val(q:Den K α' H' d v):DenE K H α' H' (.val d) v:=⟨q,trivial⟩
def DenE.back(c: ∀b,H b=none->H0 b=none)(q:DenE K H α' H' r v):DenE K H0 α' H' r v:=by
 refine⟨q.1,?_⟩
 cases r with
 |new ds=>exact λa e=>c a (q.2 a e)
 |_=>trivial
def DenE.ext(x:Ext α' H' α'' H'')(q:DenE K H α' H' r v):DenE K H α'' H'' r v:=⟨q.1.ext x,q.2⟩
end
section
variable{K:U0}
def vZ(d:DenX K α H (.val .non) v):v=.non:=aL (K:=K) (α:=α) (H:=H) d
def sG(d:DenX K α H (.val (.bl b)) v):v=.bl b:=pD (K:=K) (α:=α) (H:=H) d
def yM(d:DenX K α H (.val (.int b)) v):v=.int b:=xR (K:=K) (α:=α) (H:=H) d
def jM(d:DenX K α H (.val (.str b)) v):v=.str (bC b):=xE (K:=K) (α:=α) (H:=H) d
def Gq(d:DenX K α H (.val (.typ b)) v):v=.ty b:=cR (K:=K) (α:=α) (H:=H) d
def Wy(d:DenX K α H (.val (.obj c ns ds)) v): ∃a C j vs o,v=.ref a/\H a=some (.frz o (.ins C j (ns.zip vs)))/\PySem.W.nsIn K mainGlobals c=some (some (.ref C))/\(PySem.W.clsIn K C).map (·.name)=some c/\ns.length=↑10/\DenL K α H ds vs:=cQ d
def bF(d:DenX K α H (.val (.tup ds)) v): ∃a vs,v=.ref a/\SqT K H a vs/\DenL K α H ds vs:=yQ d
def HU(d:DenX K α H (.val (.scr ds)) v): ∃a vs,v=.ref a/\SqF K H a vs/\DenL K α H ds vs:=cS d
def iA(d:DenX K α H (.val (.loc l)) v): ∃a,v=.ref a/\α[l]? =some a:=bE (K:=K) (H:=H) d
end
noncomputable def FG:List Er->List V->List Addr
 |.new _::rs,.ref b::vs=>b::FG rs vs
 |_::rs,_::vs=>FG rs vs
 |_,_=>[]
inductive ArgsE(K:U0)(H:Hp)(α':B9)(H':Hp):List Er->List V->Prop
 |nil:ArgsE K H α' H' [] []
 |cons {r v rs vs}:DenE K H α' H' r v->(∀ds b,r=.new ds->v=.ref b->b∉FG rs vs)->ArgsE K H α' H' rs vs->ArgsE K H α' H' (r::rs) (v::vs)
theorem ArgsE.nones{K:U0}: ∀{rs vs},ArgsE K H α' H' rs vs-> ∀b∈FG rs vs,H b=none
 |_,_,.nil=>λb h=>by simp[FG]at h
 |.val d::_,v::_,.cons a n l=>λb h=>ArgsE.nones l b (by simpa [FG]using h)
 |.new ds::_,v::_,.cons a n l=>λb h=>by
  refine a.1.d λc vs c _=>?_;subst c;rcases mC.mp h with rfl|h
  .exact a.2 _ rfl
  .exact ArgsE.nones l b h
theorem ArgsE.back{K:U0}(c: ∀b,H b=none->H0 b=none): ∀{rs vs},ArgsE K H α' H' rs vs->ArgsE K H0 α' H' rs vs
 |_,_,.nil=>.nil
 |_,_,.cons a n l=>.cons (a.back c) n (ArgsE.back c l)
theorem ArgsE.length{K:U0}: ∀{rs vs},ArgsE K H α' H' rs vs->↑10=↑58
 |_,_,.nil=>rfl
 |_,_,.cons _ _ l=>by rw[lC,lC,ArgsE.length l]
class Dn (β:Type) (τ:outParam Type) where
 d:Gm->Hp->List Addr->Sto->Hp->β->τ->Prop
 back: ∀{g:Gm}{H H0:Hp}{α':B9}{S':Sto}{H':Hp}{b:β}{u:τ},(∀b,H b=none->H0 b=none)->d g H α' S' H' b u->d g H0 α' S' H' b u
instance:Dn Er V:=⟨λg H α' _ H' r v=>DenE g.K H α' H' r v,λa q=>q.back a⟩
instance:Dn Bool Bool:=⟨λ_ _ _ _ _ b u=>u=b,λ_ q=>q⟩
instance:Dn (List Er) (List V):=⟨λg H α' _ H' r v=>ArgsE g.K H α' H' r v,λa q=>q.back a⟩
instance:Dn (Option Int) (Option Int):=⟨λ_ _ _ _ _ b u=>u=b,λ_ q=>q⟩
abbrev XW:=Str->List (Str×MV)->Sto->List Addr->Hp->Prop
abbrev W0:XW:=λ_ _ _ _ _=>False
def Post[Dn β τ](g:Gm)(W:XW)(α:B9)(H:Hp):R β->(τ->Hp->Prop)->Prop
 |.ok b S,Q=> ∀u α' H',Ext α H α' H'->Wd g α' S H'->Dn.d g H α' S H' b u->Q u H'
 |.exc c fs S,_=> ∀α' H',Ext α H α' H'->Wd g α' S H'->W c fs S α' H'
 |.no,_=>False
section
variable[Dn β τ][Dn γ υ]
def Post.shift(x:Ext α H α' H'): ∀{m:R β}{Q},Post g W α H m Q->Post g W α' H' m Q
 |.ok b S,Q,q=>λu j B G z I=>q u j B (x.trans G) z (Dn.back (λb h=>x.free h) I)
 |.exc c fs S,_,q=>λj B G z=>q j B (x.trans G) z
 |.no,_,q=>q
def Post.bind{k:β->Sto->R γ}(q:Post g W α H (m.bind k) Q)
  (f: ∀u b B j z,m=.ok b B->Ext α H j z->Wd g j B z->Dn.d g H j B z b u->Post g W α H (k b B) Q->Q' u z):Post g W α H m Q':=by
 cases m with
 |ok b S=>exact λu j z x w d=>f u b S j z rfl x w d q
 |exc c fs S=>exact q
 |no=>exact q
def Post.here{b:β}(q:Post g W α H (.ok b S) Q)(w:Wd g α S H)(d:Dn.d g H α S H b u):Q u H:=q u α H (Ext.refl α H) w d
end
def Post.val(q:Post g W α H (.ok (Er.val d) S) Q)(w:Wd g α S H)(k:Den g.K α H d v):Q v H:=q.here w (DenE.val k)
def Post.newl(q:Post g W α H (.ok (Er.new ds) S) Q)(w:Wd g α S H)(b:H p=none)(l:DenL g.K α H ds vs):Q (.ref p) (xV H p (.lst vs)):=
 q _ α _ (w.newx b) (w.new b) ⟨(Ym p vs rfl zO (w.fresh b) (l.ext (w.newx b))),λa e=>by cases e;exact b⟩
def Post.newt(q:Post g W α H (.ok (Er.val (.tup ds)) S) Q)(w:Wd g α S H)(a:H p=none)(l:DenL g.K α H ds vs):Q (.ref p) (xV H p (.tup vs)):=
 q _ α _ (w.newx a) (w.new a) (.val (eO (.of zO) (l.ext (w.newx a))))
abbrev Rho:=List (Option MV)
structure Slots(K:U0)(α:B9)(H:Hp)(ρ:Rho)(σ:St):Prop where
 len:σ.length=ρ.length
 slot: ∀(i:Nat)(d:MV),ρ[i]? =some (some d)-> ∃v,σ[i]? =some (some v)/\Den K α H d v
section
variable{K:U0}
def Slots.ex0(q:Slots K α H ρ σ)(x:Ex0 α H α' H'):Slots K α' H' ρ σ:=⟨q.len,λi d e=>let ⟨v,a,b⟩:=q.slot i d e;(Z3 v a (b.ex0 x))⟩
def Slots.ext(q:Slots K α H ρ σ)(x:Ext α H α' H'):Slots K α' H' ρ σ:=q.ex0 x.toEx0
theorem Nr{α:Type}{l:List α}{x y:α}(h:(l.set i x)[j]? =some y):(j=i/\y=x/\i<l.length)\/(j≠i/\l[j]? =some y):=by
 by_cases a:i=j
 .subst a;by_cases b:i<l.length
  .rw[ğ b]at h;exact .inl ⟨rfl,(ä h).symm,b⟩
  .rw[getElem?_eq_none (by rw[ċ];lia)]at h;cases h
 .rw[Ġ a]at h;exact .inr ⟨λz=>a z.symm,h⟩
def Slots.set(q:Slots K α H ρ σ)(h:Den K α H d v):Slots K α H (ρ.set i (some d)) (σ.set i (some v)):=by
 refine⟨by rw[ċ,ċ];exact q.len,λj e z=>?_⟩;rcases Nr z with⟨rfl,e',hl⟩|⟨hj,e'⟩
 .cases e';exact⟨v,by rw[ğ (by rw[q.len];exact hl)],h⟩
 .refine(q.slot j e e').a λu a b=>?_;exact⟨u,by rw[Ġ (Ne.symm hj)];exact a,b⟩
end
def Jd(X:Cx)(W:XW)[Dn β τ](P:(St->Hp->(τ->Hp->Prop)->Prop)->Prop)(f:Rho->Sto->R β):Prop:=
 ∃t,P t/\ ∀α a S σ H Q,Wd X.g α S H->Slots X.K α H a σ->Post X.g W α H (f a S) Q->t σ H Q
abbrev zI(X:Cx)(W:XW)(e:Expr)(f:Rho->Sto->R Er):Prop:=Jd X W (PE X e) f
abbrev uZ(X:Cx)(W:XW)(e:Expr)(f:Rho->Sto->R Bool):Prop:=Jd X W (PT X e) f
abbrev Tp(X:Cx)(W:XW)(e:Expr)(f:Rho->Sto->R Bool):Prop:=Jd X W (PW X e) f
abbrev GF(X:Cx)(W:XW)(es:Q0)(f:↑43):Prop:=Jd X W (PA X es) f
abbrev Wz(X:Cx)(W:XW)(e:Option Expr)(f:Rho->Sto->R (Option Int)):Prop:=Jd X W (PO X e) f
section
variable{X:Cx}{W:XW}{b c:Expr}{f g h:Rho->Sto->R Er}{pos:Pos}
noncomputable def Nt:Option (Option MV)->Sto->R Er
 |some (some d),S=>.ok (.val d) S
 |_,_=>.no
def Xa(i:Nat)(h:X.N[i]? =some x:=by rfl)(hv:zBQ ↑34 x:=by first |exact Or.inl rfl|exact Or.inr (Or.inl rfl)|exact Or.inr (Or.inr rfl))(e:↑42=false:=by decide)
  (hcd:(x==("__classdict__"))=false:=by decide):zI X W (.Name x pos) (λj S=>Nt (j[i]?) S):=by
 refine Z3 _ (Va h hv e hcd) (λα j S σ H Q a sl q=>?_);dsimp only at q
 cases z:j[i]? with
 |none=>rw[z]at q;exact q.elim
 |some o=>
  cases o with
  |none=>rw[z]at q;exact q.elim
  |some d=>
   rw[z]at q;refine(sl.slot i d z).a λv b c=>?_;exact Z3 v b (Post.val q a c)
def Xb:zI X W (.Constant (.int i) j pos) (λ_ S=>.ok (.val (.int i)) S):=(Z3 _ Fj (λα b S σ H Q a sl q=>Post.val q a (xM i)))
def V7:zI X W (.Constant (.bool i) j pos) (λ_ S=>.ok (.val (.bl i)) S):=(Z3 _ P5 (λα b S σ H Q a sl q=>Post.val q a (wN i)))
def Xc:zI X W (.Constant .none j pos) (λ_ S=>.ok (.val .non) S):=(Z3 _ (λ_ _ _ H _ I h=>Constant_none (Z0 .non H I rfl h)) (λα b S σ H Q a sl q=>Post.val q a uF))
def Xd(cs)(b:x=bC cs:=by rfl):zI X W (.Constant (.str x) j pos) (λ_ S=>.ok (.val (.str cs)) S):=
 (Z3 _ (λ_ _ _ H _ I h=>Calls.Constant_str (Z0 (.str x) H (I.tok _) ⟨_,rfl⟩ h)) (λα c S σ H Q a sl q=>Post.val q a (by rw[b];exact mE cs)))
def Nu(b:Gl X x)(hm:X.mg x=some (.int i t))(c:↑42=false:=by decide):zI X W (.Name x pos) (λ_ S=>.ok (.val (.int i)) S):=
 (Z3 _ (λ_ _ _ H _ I h=>NT I b hm (Z0 (.int i) H I (⟨t,rfl⟩) h) c) (λα d S σ H Q a sl q=>Post.val q a (xM i)))
def SH(b:Gl X x)(hm:X.mg x=none)(hv:bootBuiltins x=some (.type T))(hn:x≠"__name__":=by decide)(c:↑42=false:=by decide):zI X W (.Name x pos) (λ_ S=>.ok (.val (.typ T)) S):=
 (Z3 _ (λ_ _ _ H _ I h=>pY I b hm hv (Z0 (.ty T) H I rfl h) hn c) (λα d S σ H Q a sl q=>Post.val q a (YZ T)))
def Xe:zI X W (.UnaryOp .USub (.Constant (.int i) j p3) pos) (λ_ S=>.ok (.val (.int (-i))) S):=
 (Z3 _ (R8 (unI λ_ _ _ _ _ q=>neg_int q) Fj) (λα b S σ H Q a sl q=>(Z3 i rfl (Post.val q a (xM (-i))))))
def KL(X:Cx)(W:XW)(r:R2)(F:Er->Er->Sto->R Er):Prop:= ∀p q x y α S H Q,Wd X.g α S H->DenX X.K α H p x->DenX X.K α H q y->Post X.g W α H (F p q S) Q->r x y H Q
def two(C:KL X W r F){d c:TE}(k: ∀α j S σ H Q,Wd X.g α S H->Slots X.K α H j σ->Post X.g W α H (f j S) Q->d σ H Q)
  (fb: ∀α j S σ H Q,Wd X.g α S H->Slots X.K α H j σ->Post X.g W α H (g j S) Q->c σ H Q)       (wd:↑27) (sl:Slots X.K α H j σ)
  (q:Post X.g W α H ((f j S).bind λp m=>(g j m).bind λq S2=>F p q S2) Q):d σ H λx z=>c σ z λy B=>r x y B Q:=
 k α j S σ H _ wd sl (q.bind λu p m b z D h o i n=>fb b j m σ z _ o (sl.ext h) ((n.shift h).bind λs p2 S2 a B E e v w A=>
  C p p2 u s a S2 B Q v (i.1.ext e) w.1 (A.shift e)))
def FH(B:OpR X (binaryOp op) r)(w:KL X W r F)(c:zI X W a f)(d:zI X W b g):zI X W (.BinOp a op b pos) (λj S=>(f j S).bind λp m=>(g j m).bind λq S2=>F p q S2):=by refine c.a λD c e=>?_;refine d.a λC d fb=>?_;exact Z3 _ (by intro pins s σ H Q I h;exact wpAny_BinOp (Vu c d I h λv u o x y A k i z q=>B pins o σ A x y v u Q k i z q)) (λα j S σ H Q n sl q=>two w e fb n sl q)
def WO(B:OpR X (compareOp op) r)(w:KL X W r F)(c:zI X W a f)(d:zI X W b g)(hm:behindInMarks op b=false:=by first |exact Ft _|with_unfolding_all rfl):
  zI X W (.Compare a [op] [b] pos) (λj S=>(f j S).bind λp m=>(g j m).bind λq S2=>F p q S2):=by
 refine V0 λE=>?_;refine c.a λD c e=>?_;refine d.a λC d fb=>?_;refine E ?_;exact Z3 _ (by intro pins s σ H Q I h;exact wpAny_Compare1 (Vu c d I h λv u o x y A k i z q=>B pins o σ A x y v u Q k i z q) hm) (λα j S σ H Q n sl q=>two w e fb n sl q)
def Tq(z:IxR X r)(w:KL X W r F)(c:zI X W a f)(d:zI X W b g)(hs:GN b:=by exact λ_ _=>rfl):
  zI X W (.Subscript a b pos) (λj S=>(f j S).bind λp m=>(g j m).bind λq S2=>F p q S2):=by
 refine c.a λD c e=>?_;refine d.a λC d fb=>?_;exact Z3 _ (by intro pins s σ H Q I h;exact Subscript_ (Vu c d I h λv u k x y B i A n q=>z a b pins k σ B x y v u Q i A n q (hs _ _))) (λα j S σ H Q o sl q=>two w e fb o sl q)
noncomputable def gY:Er->Sto->R Bool
 |.val (.bl b),S=>.ok b S
 |_,_=>.no
def SI(q:Post X.g W α H (gY p S) Q): ∃k,p=.val (.bl k)/\Post X.g W α H (.ok k S) Q:=by
 unfold gY at q;split at q
 .exact⟨_,rfl,q⟩
 .exact q.elim
def HV[Dn β τ]{k:Bool->Sto->R β}(q:Post X.g W α H ((gY p S).bind k) Q): ∃c,p=.val (.bl c)/\Post X.g W α H (k c S) Q:=by
 unfold gY at q;split at q
 .exact⟨_,rfl,q⟩
 .exact q.elim
def AA(Y:OpR X (compareOp op) r)(T:KL X W r F)(i:zI X W a f)(m:zI X W b g)(hm:behindInMarks op b=false:=by first |exact Ft _|with_unfolding_all rfl):
  uZ X W (.Compare a [op] [b] pos) (λj S=>((f j S).bind λp B=>(g j B).bind λq S2=>F p q S2).bind gY):=by
 refine i.a λta i w=>?_;refine m.a λZ m fb=>?_;refine Z3 _ (show PT X (.Compare a [op] [b] pos) (To (zBU r ta Z)) by
   rw[22]
   refine wpAny_isTrue_Compare1 (wG (i pins s σ H _ I h) λv K ⟨x,o,I1,A,d⟩=>wG (m pins K σ o _ I1 d) λu L ⟨y,H2,E,r2,n⟩=>
    wG (Y pins L σ H2 x y v u _ E A r2 n) λc s3 ⟨z,O,M,N,k,e,G⟩=>?_) hm
   subst e;subst N;exact ć (Z3 O M G)) (λα j S σ H Q P sl q=>?_);refine two T w fb P sl (q.bind λu p B C o e1 U J D d=>?_);refine(SI (d.shift U)).a λk c n=>?_;subst c;exact⟨k,sG D.1,n.here J rfl⟩
def Fc(F G:Er->Er->Sto->R Er)(p q:Er)(S:Sto)(k:Sto->R Er):R Er:=(F p q S).bind λz b=>(gY z b).bind λc a=>if c=true then(k a).bind λr d=>G q r d else .ok (.val (.bl false)) a
def chain(O:KL X W r F)(hG:KL X W r' G)(B: ∀α j S σ H Q,Wd X.g α S H->Slots X.K α H j σ->Post X.g W α H (f j S) Q->ta σ H Q)
  (fb: ∀α j S σ H Q,Wd X.g α S H->Slots X.K α H j σ->Post X.g W α H (g j S) Q->tb σ H Q) (fc: ∀α j S σ H Q,Wd X.g α S H->Slots X.K α H j σ->Post X.g W α H (h j S) Q->tc σ H Q)       (wd:↑27) (sl:Slots X.K α H j σ)
  (q:Post X.g W α H ((f j S).bind λp m=>(g j m).bind λq S2=>Fc F G p q S2 λz=>h j z) Q):WC r r' ta tb tc σ H Q:=
 B α j S σ H _ wd sl (q.bind λu p m c J e1 d D A q1=>fb c j m σ J _ D (sl.ext d) ((q1.shift d).bind λv p2 S2 b Z e2 i E w Y=>by
  refine O p p2 u v b S2 Z _ E (A.1.ext i) w.1 (Post.bind (Y.shift i) λu3 p3 z e M e3 o y I C=>?_);refine(HV (C.shift o)).a λk V a=>?_;subst V;refine Z3 k (sG I.1) ?_
  cases k with
  |true=>
   rw[iP rfl]at a ⊢;exact fc e j z σ M _ y (((sl.ext d).ext i).ext o) (a.bind λN P S5 n H5 e5 s L U T=>hG p2 P v N n S5 H5 Q L ((w.1.ext o).ext s) U.1 (T.shift s))
  |false=>
   rw[iN xF0]at a ⊢;exact Post.val a y (wN false)))
def SJ(ho:OpR X (compareOp op) r)(i:OpR X (compareOp op') r')(hF:KL X W r F)(hG:KL X W r' G)(n:zI X W a f)(o:zI X W b g)(m:zI X W c h)
  (hm:lastMarks [op,op'] [b,c]=false:=by with_unfolding_all rfl):
  zI X W (.Compare a [op,op'] [b,c] pos) (λj S=>(f j S).bind λp O=>(g j O).bind λq S2=>Fc F G p q S2 λT=>h j T):=by
 refine V0 λV=>?_;refine n.a λta n E=>?_;refine o.a λtb o fb=>?_;refine m.a λtc m fc=>?_;refine V ?_;exact Z3 _ (by
   rw[22]
   refine Compare_chain (wG (n pins s σ H _ I h) λv N ⟨x,U,I1,J,M⟩=>chain_link (wG (o pins N σ U _ I1 M) λu Y ⟨y,H2,K,C,q2⟩=>
    wG (ho pins Y σ H2 x y v u _ K J C q2) λd s3 ⟨z,B,A,Z,k,e,w⟩=>?_)) hm
   subst e;subst Z;refine ć ?_
   cases k with
   |false=>exact ite_ff (Z0 (.bl false) B A rfl w)
   |true=>exact ite_tt (chain_last (wG (m pins s3 σ B _ A w) λL D ⟨z',H4,P,r4,q4⟩=>i pins D σ H4 y z' u L Q P C r4 q4))) (λα j S σ H Q wd sl q=>chain hF hG E fb fc wd sl q)
noncomputable def pE:Er->Sto->R Bool
 |.val .non,S=>.ok false S
 |.val (.bl b),S=>.ok b S
 |.val (.int i),S=>.ok (i !=0) S
 |.val (.str x),S=>if x.length<=sizeLine then .ok (!x.isEmpty) S else .no
 |.val (.tup ds),S=>.ok (!ds.isEmpty) S
 |.val (.scr ds),S=>.ok (!ds.isEmpty) S
 |.val (.loc l),S=>match S[l]? with
  |some (.lst ds)=>.ok (!ds.isEmpty) S
  |_=>.no
 |.val (.typ _),_=>.no
 |.val (.obj _ _ _),_=>.no
 |.new ds,S=>.ok (!ds.isEmpty) S
def uG{K:U0}(l:↑73):(!vs.isEmpty)= !ds.isEmpty:=by have:=l.length;cases ds<;>cases vs<;>simp_all
theorem Gu(j:↑27)(d:DenX X.K α H p x)(q:Post X.g W α H (pE p S) Q): ∃k,Wb X.K x H k/\Q k H:=by
 match p,d,q with
 |.val .non,d,q=>cases vZ d;exact⟨_,rfl,q.here j rfl⟩
 |.val (.bl b),d,q=>cases sG d;exact Z3 _ rfl (q.here j rfl)
 |.val (.int i),d,q=>cases yM d;exact Z3 _ rfl (q.here j rfl)
 |.val (.typ n),d,q=>exact q.elim
 |.val (.obj _ _ _),d,q=>exact q.elim
 |.val (.str z),d,q=>
  cases jM d;have e:Post X.g W α H (if z.length<=sizeLine then R.ok _ S else R.no) Q:=q;split at e
  .rename_i y;refine⟨_,⟨by rw[dU];exact y,?_⟩,e.here j rfl⟩;rw[dU]
   cases z with
   |nil=>rfl
   |cons c r=>
    have v:((r.length:Int)+1)≠0:=by lia
    simp[v]
  .exact e.elim
 |.val (.tup ds),d,q=>
  obtain⟨a,vs,rfl,s,l⟩:=bF d;exact⟨_,.inr (.inl ⟨vs,s,(uG l).symm⟩),q.here j rfl⟩
 |.val (.scr ds),d,q=>
  obtain⟨a,vs,rfl,s,l⟩:=HU d;exact⟨_,.inl ⟨vs,s.l,(uG l).symm⟩,q.here j rfl⟩
 |.val (.loc n),d,q=>
  refine(iA d).a λa A h=>?_;subst A;refine(j.of h).a λo m u=>?_;have e:Post X.g W α H (match S[n]? with |some (.lst ds)=>R.ok _ S|_=>R.no) Q:=q;rw[m]at e
  cases o with
  |lst ds=>
   refine u.a λvs w l=>?_;exact Z3 _ (.inl ⟨vs,.of w,(uG l).symm⟩) (e.here j rfl)
  |dic ds=>exact e.elim
  |ins c fs=>exact e.elim
  |rcd c fs=>exact e.elim
  |fdc _=>exact e.elim
 |.new ds,⟨a,vs,ex,s,n,l⟩,q=>subst ex;exact Z3 _ (.inl ⟨vs,.of s,(uG l).symm⟩) (q.here j rfl)
def Gv(c:zI X W a f)(z: ∀j,isTrue a X.env j=(do let v <-j;standAt a.pos;holding [v] (truthy v)):=by intro _;rfl):uZ X W a (λm S=>(f m S).bind pE):=by refine c.a λC c e=>?_;exact(Z3 _ (by
  intro pins s σ H Q I h;exact isTrue_plain (wG (c pins s σ H _ I h) λv r ⟨x,d,I1,i,b⟩=>Wc pins r σ d x v Q I1 i b) (z _)) (λα m S σ H Q w sl q=>e α m S σ H _ w sl (q.bind λu p A k d B y o n b=>Gu o n.1 (b.shift y))))
end
section
variable{c:Expr}{h:Rho->Sto->R Er}
def Nv(p:Er)(S:Sto)(k:Sto->R Er):R Er:=(gY p S).bind λc a=>if c=true then k a else .ok (.val (.bl false)) a
def orF(p:Er)(S:Sto)(k:Sto->R Er):R Er:=(gY p S).bind λc a=>if c=true then .ok (.val (.bl true)) a else k a
def Xf(b:zI X W a f):zI X W (.BoolOp op [a] pos) f:=let ⟨t,h,k⟩:=b;(Z3 t (λpins s σ H Q I hw=>BoolOp_one (h pins s σ H Q I hw)) k)
def Xg(e:zI X W a f)(h:zI X W (.BoolOp .And (b::es) pos) g):zI X W (.BoolOp .And (a::b::es) pos) (λj S=>(f j S).bind λp m=>Nv p m λS2=>g j S2):=by
 refine e.a λA e o=>?_;refine h.a λy h fb=>?_;refine Z3 _ (Vh e h) (λα j S σ H Q s sl q=>o α j S σ H _ s sl (q.bind λu p m d v z n i r w=>?_));refine(HV (w.shift n)).a λk u c=>?_;subst u;refine Z3 k (sG r.1) ?_
 cases k with
 |true=>rw[iP rfl]at c ⊢; exact fb d j m σ v _ i (sl.ext n) c
 |false=>rw[iN xF0]at c ⊢; exact Post.val c i (wN false)
def Xh(d:zI X W a f):zI X W (.UnaryOp .Not a pos) (λj S=>(f j S).bind λp m=>(gY p m).bind λk S2=>.ok (.val (.bl !k)) S2):=by refine d.a λB d i=>?_;refine Z3 _ (show PE X (.UnaryOp .Not a pos) (Q3 B) by intro pins s σ H Q I h;refine UnaryOp_ (wG (d pins s σ H _ I h) λv C ⟨x,e,I1,n,b⟩=>?_);obtain⟨c,rfl,b⟩:=b;subst n;exact not_of (ć (Z0 (.bl (!c)) e I1 rfl b))) (λα j S σ H Q y sl q=>i α j S σ H _ y sl (q.bind λu p m o e D z w r b=>?_));refine(HV (b.shift z)).a λk g A=>?_;subst g;exact⟨k,sG r.1,Post.val A w (wN _)⟩
def V8(i:uZ X W c tf)(n:zI X W a f)(o:zI X W b g):zI X W (.IfExp c a b pos) (λj S=>(tf j S).bind λk m=>if k=true then f j m else g j m):=by
 refine V0 λE=>?_;refine i.a λB i v=>?_;refine n.a λD n w=>?_;refine o.a λA o fb=>?_;refine E ?_;refine Z3 _ (Fk i n o) (λα j S σ H Q z sl q=>v α j S σ H _ z sl (q.bind λu p m d s C h r y e=>?_));subst y
 cases u with
 |true=>rw[iP rfl]at e ⊢; exact w d j m σ s _ r (sl.ext h) (e.shift h)
 |false=>rw[iN xF0]at e ⊢; exact fb d j m σ s _ r (sl.ext h) (e.shift h)
def Nx(b:uZ X W a tf):Tp X W (.BoolOp .And [a] pos) tf:=let ⟨t,h,k⟩:=b;(Z3 t (Mk h) k)
def Xi(b:uZ X W a tf):Tp X W (.BoolOp .Or [a] pos) tf:=let ⟨t,h,k⟩:=b;(Z3 t (Vd h) k)
theorem Xj(e:uZ X W a tf)(h:Tp X W (.BoolOp .And (b::es) pos) tg):Tp X W (.BoolOp .And (a::b::es) pos) (λj S=>(tf j S).bind λk m=>if k=true then tg j m else .ok false m):=by
 refine e.a λz e o=>?_;refine h.a λw h fb=>?_;refine Z3 _ (Ve e h) (λα j S σ H Q s sl q=>o α j S σ H _ s sl (q.bind λu p m d v y i n r c=>?_));subst r
 cases u with
 |true=>rw[iP rfl]at c ⊢; exact fb d j m σ v _ n (sl.ext i) (c.shift i)
 |false=>rw[iN xF0]at c ⊢; exact(c.shift i).here n rfl
def V9(e:uZ X W a tf)(h:Tp X W (.BoolOp .Or (b::es) pos) tg):Tp X W (.BoolOp .Or (a::b::es) pos) (λj S=>(tf j S).bind λk m=>if k=true then .ok true m else tg j m):=by
 refine e.a λz e o=>?_;refine h.a λw h fb=>?_;refine Z3 _ (P8 e h) (λα j S σ H Q s sl q=>o α j S σ H _ s sl (q.bind λu p m d v y i n r c=>?_));subst r
 cases u with
 |true=>rw[iP rfl]at c ⊢; exact(c.shift i).here n rfl
 |false=>rw[iN xF0]at c ⊢; exact fb d j m σ v _ n (sl.ext i) (c.shift i)
def W1(h:Tp X W a tf):uZ X W a tf:=let ⟨t,h,k⟩:=h;(Z3 t h.pt k)
theorem Xk(b:uZ X W a tf):uZ X W (.UnaryOp .Not a pos) (λj S=>(tf j S).bind λk m=>.ok (!k) m):=by refine b.a λz b e=>?_;refine Z3 _ (by intro pins s σ H Q I h;exact isTrue_not (b pins s σ H (λc d=>Q (!c) d) I h)) (λα j S σ H Q r sl q=>e α j S σ H _ r sl (q.bind λu p m i d y w o n v=>?_));subst n;exact(v.shift w).here o rfl
end
section
variable{K:U0}
noncomputable def zG:List Er->Sto->List MV×Sto
 |[],S=>([],S)
 |.val d::rs,S=>((d::(zG rs S).1),(zG rs S).2)
 |.new xs::rs,S=>((.loc S.length::(zG rs (S++[.lst xs])).1),(zG rs (S++[.lst xs])).2)
def ArgsE.grow(q:ArgsE K H0 α H rs vs)(n:b∉FG rs vs):ArgsE K H0 (α++[b]) H rs vs:=by
 induction q with
 |nil=>exact .nil
 |@cons r v rs vs a m l ih=>
  cases r with
  |val d=>exact .cons ⟨Den.ex0 (Ex0.grow α [b] H) a.1,trivial⟩ m (ih (by simpa [FG]using n))
  |new ds=>
   obtain⟨⟨c,o,rfl,h,j,k⟩,i⟩:=a;have e:=n;refine .cons ⟨(Ym c o rfl h (λz=>?_) (k.ex0 (Ex0.grow α [b] H))),i⟩ m (ih λz=>e (mO _ z));rcases ê.mp z with z|z
   .exact j z
   .exact e (by rw[mS.mp z];exact mF0)
theorem sH: ∀{rs}{vs}{α}{S},Wd g α S H->Ext α0 H0 α H->ArgsE g.K H0 α H rs vs->
  ∃α',Ext α0 H0 α' H/\Ex0 α H α' H/\Wd g α' (zG rs S).2 H/\DenL g.K α' H (zG rs S).1 vs
 |_,_,α,S,w,x,.nil=>⟨α,x,⟨⟨[],by simp⟩,λ_ _ h=>h,λ_ _ _ h=>h⟩,w,zZ⟩
 |.val d::rs,v::vs,α,S,w,x,.cons a n l=>by refine(sH w x l).elim λα' r=>r.h λm j q u=>?_;exact⟨α',m,j,q,zQ (Den.ex0 j a.1) u⟩
 |.new ds::rs,v::vs,α,S,w,x,.cons a n l=>by
  refine V0 λz=>?_;obtain⟨⟨c,p,rfl,i,b,o⟩,k⟩:=a;refine(sH (w.enter i b o) (w.enterx x (k c rfl) b) (l.grow (n ds c rfl rfl))).elim λα' y=>y.h λm j q u=>?_;refine z ?_;refine⟨α',m,⟨?_,j.tup,j.frz⟩,q,zQ (qD (j.at ?_)) u⟩
  .obtain⟨t,e⟩:=j.pre;exact⟨_,by rw[e,aA]⟩
  .rw[<-w.len,æ (à _),sub_self];rfl
theorem DW: ∀ rs  S ,(zG rs S).1.length=↑58
 |[],S=>rfl
 |.val d::rs,S=>by show(d::(zG rs S).1).length=_;rw[lC,DW rs S];rfl
 |.new ds::rs,S=>by show(_::(zG rs _).1).length=_;rw[lC,DW rs _];rfl
end
section
variable{b c:Expr}{g h:Rho->Sto->R Er}{pos:Pos}
def Xl:GF X W [] (λ_ S=>.ok [] S):=(Z3 _ WG (λα b S σ H Q a sl q=>q.here a .nil))
def Ny(s:zI X W a f)(r:GF X W es af)(hs:q8 X a es:=by rfl):GF X W (a::es) (λj S=>(f j S).bind λp m=>(af j m).bind λps S2=>.ok (p::ps) S2):=by
 refine s.a λT s B=>?_;refine r.a λN r J=>?_;refine Z3 _ (NV s r hs) (λα j S σ H Q I sl q=>B α j S σ H _ I sl (q.bind λu p m n F O i E w D=>J n j m σ F _ E (sl.ext i) ?_));have d:Post X.g W α H _ Q:=D
 cases z:af j m with
 |ok ps S2=>
  rw[z]at d;intro vs e v k o y;refine d _ e v (i.trans k) o (ArgsE.cons (DenE.ext k w) (λM b K G L=>?_) (ArgsE.back (λb h=>i.free h) y));subst K G;obtain⟨⟨c,P,C,A,_⟩,_⟩:=w;cases C;have:=ArgsE.nones y _ L;rw[A]at this;cases this
 |exc c fs S2=>rw[z]at d;exact λe v k o=>d e v (i.trans k) o
 |no=>rw[z]at d;exact d
def nW(rs:List Er)(S:Sto):R Er:=if ↑58<=sizeLine then .ok (.val (.tup (zG rs S).1)) (zG rs S).2 else .no
def jN(rs:List Er)(S:Sto):R Er:=if ↑58<=sizeLine then .ok (.new (zG rs S).1) (zG rs S).2 else .no
def Xm(h:GF X W es af):zI X W (.Tuple es j pos) (λm S=>(af m S).bind nW):=by
 refine h.a λt h k=>?_;refine Z3 _ (show PE X (.Tuple es j pos) (tTup t) by intro pins s σ H Q I o;refine wpAny_Tuple_spliced (wG (h pos pins s σ H _ I o) λK y ⟨xs,C,I1,r,z,q⟩=>⟨by rw[<-r.length];exact z,?_⟩);refine Z0 (.ref y.heap.objs.size) _ (I1.laid (λb u e=>hP0 _ e) (à _) ?_) rfl (q _ (I1.hok.fresh (à _)));exact⟨z,K,r,⟨_,á _ rfl,rfl,_,rfl⟩⟩) (λα m S σ H Q E sl q=>k α m S σ H _ E sl (q.bind λvs d A n C M j w c v=>?_));have a:Post X.g W α H (if d.length<=sizeLine then R.ok _ (zG d A).2 else R.no) Q:=v;split at a
 .rename_i F;refine(sH w j c).elim λi b=>b.h λG L B J=>?_;exact⟨by rw[ArgsE.length c];exact F,λp D=>(a.shift G).newt B D J⟩
 .exact a.elim
def Xn(h:GF X W es af):zI X W (.List es pos) (λj S=>(af j S).bind jN):=by
 refine h.a λt h k=>?_;refine Z3 _ (show PE X (.List es pos) (tLst t) by intro pins s σ H Q I n;refine wpAny_List_spliced (wG (h pos pins s σ H _ I n) λK w ⟨xs,B,I1,r,z,q⟩=>⟨by rw[<-r.length];exact z,?_⟩);refine Z0 (.ref w.heap.objs.size) _ (I1.laid (λb u e=>hP0 _ e) (à _) ?_) rfl (q _ (I1.hok.fresh (à _)));exact⟨z,K,0,r,á _ rfl⟩) (λα j S σ H Q D sl q=>k α j S σ H _ D sl (q.bind λvs d y m B M F v c o=>?_));have a:Post X.g W α H (if d.length<=sizeLine then R.ok _ (zG d y).2 else R.no) Q:=o;split at a
 .rename_i E;refine(sH v F c).elim λi b=>b.h λG L A J=>?_;exact⟨by rw[ArgsE.length c];exact E,λp C=>(a.shift G).newl A C J⟩
 .exact a.elim
inductive ArgsX(K:U0)(α:B9)(H:Hp):List Er->List V->Prop
 |nil:ArgsX K α H [] []
 |cons {r v rs vs}:DenX K α H r v->ArgsX K α H rs vs->ArgsX K α H (r::rs) (v::vs)
theorem ArgsE.x{K:U0}: ∀{rs vs},ArgsE K H0 α H rs vs->ArgsX K α H rs vs
 |_,_,.nil=>.nil
 |_,_,.cons a _ l=>.cons a.1 (ArgsE.x l)
def pF(X:Cx)(W:XW)(r:List V->Hp->VK->Prop)(F:List Er->Sto->R Er):Prop:= ∀a vs α S H Q,Wd X.g α S H->ArgsX X.K α H a vs->Post X.g W α H (F a S) Q->r vs H Q
def sI{id:String}{p:Pos}(h:CallR X (.builtin id) r)(v:pF X W r F)(s:Gl X x)(hm:X.mg x=none)(hv:bootBuiltins x=some (.builtin id))(b:↑59)
  (hn:x≠"__name__":=by decide) (hdb:↑42=false:=by decide)
  (he:q8 X e es:=by rfl) (hpl:q9 X pos es:=by rfl):zI X W ↑54 (λj S=>(af j S).bind F):=by
 refine b.a λt b k=>?_;exact Z3 _ (RW h s hm hv b hn hdb he hpl) (λα j S σ H Q n sl q=>k α j S σ H _ n sl (q.bind λvs d m a o y w i c u=>v d vs a m o Q i (ArgsE.x c) (u.shift w)))
def fQ{p:Pos}(h:CallR X (.type T) r)(v:pF X W r F)(s:Gl X x)(hm:X.mg x=none)(hv:bootBuiltins x=some (.type T))(b:↑59)
  (hn:x≠"__name__":=by decide) (hdb:↑42=false:=by decide)
  (he:q8 X e es:=by rfl) (hpl:q9 X pos es:=by rfl):zI X W ↑54 (λj S=>(af j S).bind F):=by
 refine b.a λt b k=>?_;exact Z3 _ (DT h s hm hv b hn hdb he hpl) (λα j S σ H Q n sl q=>k α j S σ H _ n sl (q.bind λvs d m a o y w i c u=>v d vs a m o Q i (ArgsE.x c) (u.shift w)))
def SK(X:Cx)(W:XW)(r:V->List V->Hp->VK->Prop)(F:Er->List Er->Sto->R Er):Prop:= ∀p c x vs α S b H Q a,Wd X.g α S H->Ext a b α H->DenX X.K α H p x->ArgsE X.K b α H c vs->Post X.g W a b (F p c S) Q->r x vs H Q
def TyM(X:Cx)(T:String)(a:Er->Sto->Bool):Prop:= ∀p x α S H,Wd X.g α S H->DenX X.K α H p x->a p S=true->tyV X.K T x H
def ZC{id:String}{apos:Pos}(G:PlainAttrs T)(c:Slot T name id)(n:↑47)(hm:Gb X id r)(D:SK X W r F)(hT:TyM X T ty)
  (z:zI X W a f) (B:↑59)
  (hbase:attributeBase a name X.env (eval a X.env)=eval a X.env:=by rfl)
  (hfew:((backTo pos ↑38).all (λx=>!x.1)&&(backToKw pos ↑48).all (λx=>x.1.isSome)
   &&decide ↑3)=true:=by rfl)
  (hline:↑29=true:=by rfl) (hs:q8 X e es:=by rfl) (hplain:q9 X pos es:=by rfl):
  zI X W (.Call (.Attribute a name apos) (e::es) [] pos) (λm S=>(f m S).bind λp j=>if ty p j=true then(af m j).bind λrs S2=>F p rs S2 else .no):=by
 rw[20];refine z.a λM z y=>?_;refine B.a λt B k=>?_;refine g ?_;refine Z3 _ (V2 G c n hm z B hbase hfew hline hs hplain) (λα m S σ H Q C sl q=>y α m S σ H _ C sl (q.bind λu p j b i N v s o h=>?_));split at h
 .rename_i E;exact⟨hT p u b j i s o.1 E,k b m j σ i _ s (sl.ext v) ((h.shift v).bind λvs rs S2 d K L w A I J=>D p rs u vs d S2 i K Q b A w (o.1.ext w) I J)⟩
 .exact h.elim
def Nz:Wz X W none (λ_ S=>.ok none S):=(Z3 _ (by intro pins s σ H Q I h;exact wP (Z0 none H I .none h)) (λα b S σ H Q a sl q=>q.here a rfl))
noncomputable def M5:Er->Sto->R (Option Int)
 |.val (.int i),S=>.ok (some i) S
 |_,_=>.no
def Oa(c:zI X W a f):Wz X W (some a) (λj S=>(f j S).bind M5):=by
 refine c.a λs c d=>?_;refine Z3 _ (Na c) (λα j S σ H Q k sl q=>d α j S σ H _ k sl (q.bind λu p o e r n m i h b=>?_));unfold M5 at b;split at b
 .exact⟨_,yM h.1,(b.shift m).here i rfl⟩
 .exact b.elim
def Sl3(X:Cx)(W:XW)(r:V->Option Int->Option Int->Hp->VK->Prop)(F:Er->Option Int->Option Int->Sto->R Er):Prop:= ∀p lo hi x α S H Q,Wd X.g α S H->DenX X.K α H p x->Post X.g W α H (F p lo hi S) Q->r x lo hi H Q
def Gw{lo:Option Expr}(K:SlR X r)(L:Sl3 X W r F)(n:zI X W a f)(c:Wz X W lo lf)(h:Wz X W hi hf):
  zI X W (.Subscript a (.Slice lo hi none p2) pos) (λj S=>(f j S).bind λp z=>(lf j z).bind λl S2=>(hf j S2).bind λu B=>F p l u B):=by
 rw[20];refine n.a λta n s=>?_;refine c.a λtl c M=>?_;refine h.a λZ h U=>?_
 refine g ?_;refine Z3 _ (Ga K n c h) (λα j S σ H Q J sl q=>s α j S σ H _ J sl (q.bind λu p z d G e1 e C v A=>M d j z σ G _ C (sl.ext e) ((A.shift e).bind λN l S2 b Y e2 k D O T=>
  U b j S2 σ Y _ D ((sl.ext e).ext k) ((T.shift k).bind λy m B i I e3 o P E w=>?_))))
 subst O;subst E;exact L p N y u i B I Q P ((v.1.ext k).ext o) (w.shift o)
end
inductive Fl where
 |next (ρ:Rho)|ret (r:Er)|brk (ρ:Rho)|cont (ρ:Rho)
abbrev AX:=Rho->Sto->R Er
abbrev AY:=Rho->Sto->R Fl
abbrev AZ:=Rho->Sto->R Bool
def PostS(g:Gm)(W:XW)(α:B9)(H:Hp)(D:Ends):R Fl->Prop
 |.ok (.next ρ) S=> ∀σ α' H',Ext α H α' H'->Wd g α' S H'->Slots g.K α' H' ρ σ->D.nx σ H'
 |.ok (.ret r) S=> ∀v α' H',Ext α H α' H'->Wd g α' S H'->DenE g.K H α' H' r v->D.rt v H'
 |.ok (.brk ρ) S=> ∀σ α' H',Ext α H α' H'->Wd g α' S H'->Slots g.K α' H' ρ σ->D.bk σ H'
 |.ok (.cont ρ) S=> ∀σ α' H',Ext α H α' H'->Wd g α' S H'->Slots g.K α' H' ρ σ->D.ct σ H'
 |.exc c fs S=> ∀α' H',Ext α H α' H'->Wd g α' S H'->W c fs S α' H'
 |.no=>False
section
def PostS.shift(x:Ext α H α' H'): ∀{m},PostS g W α H D m->PostS g W α' H' D m
 |.ok (.next ρ) S,q=>λσ j z B u G=>q σ j z (x.trans B) u G
 |.ok (.ret r) S,q=>λv j z B u I=>q v j z (x.trans B) u (I.back λb h=>x.free h)
 |.ok (.brk ρ) S,q=>λσ j z B u G=>q σ j z (x.trans B) u G
 |.ok (.cont ρ) S,q=>λσ j z B u G=>q σ j z (x.trans B) u G
 |.exc c fs S,q=>λj z B u=>q j z (x.trans B) u
 |.no,q=>q
def PostS.expr[Dn β τ]{k:β->Sto->R Fl}(q:PostS g W α H D (m.bind k))
  (f: ∀u b B j z,m=.ok b B->Ext α H j z->Wd g j B z->Dn.d g H j B z b u->PostS g W α H D (k b B)->Q' u z):Post g W α H m Q':=by
 cases m with
 |ok b S=>exact λu j z x w d=>f u b S j z rfl x w d q
 |exc c fs S=>exact q
 |no=>exact q
def PostS.stmt(q:PostS g W α H D (m.bind k))
  (hn: ∀z S σ j u,m=.ok (.next z) S->Ext α H j u->Wd g j S u->Slots g.K j u z σ->PostS g W α H D (k (.next z) S)->D'.nx σ u)
  (hr: ∀r S v j u,m=.ok (.ret r) S->Ext α H j u->Wd g j S u->DenE g.K H j u r v->PostS g W α H D (k (.ret r) S)->D'.rt v u)
  (hb: ∀z S σ j u,m=.ok (.brk z) S->Ext α H j u->Wd g j S u->Slots g.K j u z σ->PostS g W α H D (k (.brk z) S)->D'.bk σ u)
  (hc: ∀z S σ j u,m=.ok (.cont z) S->Ext α H j u->Wd g j S u->Slots g.K j u z σ->PostS g W α H D (k (.cont z) S)->D'.ct σ u):PostS g W α H D' m:=by
 cases m with
 |ok fl S=>
  cases fl with
  |next z=>exact λσ j u x w s=>hn z S σ j u rfl x w s q
  |ret r=>exact λv j u x w d=>hr r S v j u rfl x w d q
  |brk z=>exact λσ j u x w s=>hb z S σ j u rfl x w s q
  |cont z=>exact λσ j u x w s=>hc z S σ j u rfl x w s q
 |exc c fs S=>exact q
 |no=>exact q
end
def OO(X:Cx)(W:XW)(st:Stmt)(F:AY):Prop:=
 ∃t,PS X st t/\ ∀α a S σ H D,Wd X.g α S H->Slots X.K α H a σ->PostS X.g W α H D (F a S)->t D σ H
def DX(X:Cx)(W:XW)(st:List Stmt)(F:AY):Prop:=
 ∃t,PSs X st t/\ ∀α a S σ H D,Wd X.g α S H->Slots X.K α H a σ->PostS X.g W α H D (F a S)->t D σ H
noncomputable def zF(F G:AY):AY:=λb S=>(F b S).bind λc a=>match c with
 |.next ρ'=>G ρ' a
 |.ret r=>.ok (.ret r) a
 |.brk ρ'=>.ok (.brk ρ') a
 |.cont ρ'=>.ok (.cont ρ') a
section
variable{X:Cx}{W:XW}{st:Stmt}{as:List Stmt}{F:AY}{g:AX}{e c:Expr}{pos:Pos}
def Xo:DX X W [] (λj S=>.ok (.next j) S):=(Z3 _ (λ_ _ σ H _ I h=>wpAny_execs_nil (YS (σ) H I h)) (λα j S σ H D a sl q=>q σ α H (Ext.refl α H) a sl))
def WP(h:OO X W st F):DX X W [st] F:=let ⟨t,h,k⟩:=h;(Z3 t (Mm h) k)
def OP(o:OO X W st F)(p:DX X W sts G):DX X W (st::sts) (zF F G):=by
 refine o.a λt o y=>?_;refine p.a λu p B=>?_;refine Z3 _ (by
   intro pins s σ H D I h;refine wpAny_execs_cons (wG (o pins s σ H {D with nx:=u D} I h) λf i q=>?_)
   cases f with
   |next=>
    refine q.d λw H' E q=>?_;exact p pins i w H' D E q
   |ret v=>exact q
   |brk=>exact q
   |cont=>exact q) (λα C S σ H D A sl q=>y α C S σ H _ A sl (q.stmt ?_ ?_ ?_ ?_))
 .intro m n b a j e k d i c;exact B a m n b j D d i (PostS.shift k c)
 .intro r n v a j e k d z c;exact c v a j k d z
 .intro m n b a j e k d i c;exact c b a j k d i
 .intro m n b a j e k d i c;exact c b a j k d i
def Xp(b:zI X W e f):OO X W (.Return (some e) pos) (λj S=>(f j S).bind λr m=>.ok (.ret r) m):=by refine b.a λt b k=>?_;exact Z3 _ (by intro pins s σ H D I h;exact wpAny_Return_some (wG (b pins s σ H _ I h) λv y ⟨x,c,I1,n,d⟩=>(YR x (σ) c ⟨I1,n,d⟩))) (λα j S σ H D w sl q=>k α j S σ H _ w sl (q.expr λu r m a c e i p o d=>d u a c i p o))
def Gx:OO X W st (λ_ _=>.no):=(Z3 _ Fn (λα b S σ H D a sl q=>q.elim))
def Ob(d:zI X W e f)(hs:swapsWith e none pos.line X.env=pure false:=by rfl):OO X W (.Expr e pos) (λj S=>(f j S).bind λ_ m=>.ok (.next j) m):=by refine d.a λt d k=>?_;exact Z3 _ (by intro pins s σ H D I h;exact wpAny_Expr_any (wG (d pins s σ H _ I h) λv y ⟨x,c,I1,p,b⟩=>(YS (σ) c I1 b)) I.quiet hs) (λα j S σ H D o sl q=>k α j S σ H _ o sl (q.expr λu r m a c e i n w b=>b σ a c i n (sl.ext i)))
def W2(h:uZ X W c tf)(i:DX X W as F)(n:DX X W bs G):OO X W (.If c as bs pos) (λj S=>(tf j S).bind λk m=>if k=true then F j m else G j m):=by
 rw[20];refine h.a λB h y=>?_;refine i.a λC i s=>?_;refine n.a λA n w=>?_;refine g ?_;refine Z3 _ (Q7 h i n) (λα j S σ H D z sl q=>y α j S σ H _ z sl (q.expr λu p m a r e d o v b=>?_));subst v
 cases u with
 |true=>rw[iP rfl]at b ⊢; exact s a j m σ r D o (sl.ext d) (PostS.shift d b)
 |false=>rw[iN xF0]at b ⊢; exact w a j m σ r D o (sl.ext d) (PostS.shift d b)
instance:Dn Rho St:=⟨λg _ α' _ H' a σ=>Slots g.K α' H' a σ,λ_ q=>q⟩
def Cj(X:Cx)(W:XW)(tg:Expr)(gf:↑24):Prop:=
 ∃t,PG X tg t/\ ∀α a S σ H d v Q,Wd X.g α S H->Slots X.K α H a σ->Den X.K α H d v->Post X.g W α H (gf d a S) Q->t v σ H Q
def Gy(X:Cx)(W:XW)(a:Q0)(gf:List MV->Rho->Sto->R Rho):Prop:=
 ∃t,M4 X a t/\ ∀α c S σ H b vs Q,Wd X.g α S H->Slots X.K α H c σ->DenL X.K α H b vs->Post X.g W α H (gf b c S) Q->t vs σ H Q
noncomputable def zV(i:Nat):MV->Rho->Sto->R Rho:=λd a S=>.ok (a.set i (some d)) S
def Oc(i)(h:X.N.Nodup)(hi:X.N[i]? =some x:=by rfl)(b:Loc ↑34 x:=by first |exact Or.inl rfl|exact Or.inr rfl)(e:Q2 X x:=by first |exact .inl rfl|exact .inr rfl|assumption):
  Cj X W (.Name x pos) (zV i):=(Z3 _ (YT h hi b e) (λα j S σ H d v Q a sl c q=>Post.here q a (sl.set c)))
noncomputable def zY:List MV->Rho->Sto->R Rho
 |[],ρ,S=>.ok ρ S
 |_,_,_=>.no
noncomputable def zB(b:↑24)(a:List MV->Rho->Sto->R Rho):List MV->Rho->Sto->R Rho
 |d::ds,ρ,S=>(b d ρ S).bind λj m=>a ds j m
 |_,_,_=>.no
def Xq:Gy X W [] zY:=(Z3 _ YU (λα e S σ H a vs Q b sl c q=>by
 cases a with
 |nil=>exact⟨c.isnil,Post.here q b sl⟩
 |cons d a=>exact q.elim))
def Od(b:Cj X W e g1)(i:Gy X W es g2)(hs:(assignEach (e::es) X.env).map (·.2)=assign e X.env::(assignEach es X.env).map (·.2):=by rfl):Gy X W (e::es) (zB g1 g2):=by
 refine b.a λC b k=>?_;refine i.a λD i z=>?_;refine Z3 _ (RS b i hs) (λα A S σ H h vs Q y sl B q=>?_)
 cases h with
 |nil=>exact q.elim
 |cons d h=>
  refine B.uncons.c λv r g a l=>?_;subst g;refine YS v r rfl (k α A S σ H d v _ y sl a (Post.bind q λu p s c w e j o m n=>z c p s u w h r Q o m (l.ext j) (n.shift j)))
noncomputable def iB(n:Nat)(a:List MV->Rho->Sto->R Rho):MV->Rho->Sto->R Rho
 |.tup ds,ρ,S=>if ds.length=n then a ds ρ S else .no
 |_,_,_=>.no
def Xr{k:Nat}(c:X.calm=true)(h:Gy X W es g2)
  (hn:(assignEach es X.env).length=n:=by rfl) (hst:(assignEach es X.env).findIdx? (·.1)=none:=by rfl):Cj X W (.Tuple es k pos) (iB n g2):=by
 refine h.a λt h k=>?_;refine Z3 _ (Fp c h hn hst) (λα e S σ H d v Q j sl i q=>?_);unfold iB at q;split at q
 .split at q
  .rename_i b;refine(yQ i).c λa vs g s l=>?_;subst g;exact Ym a vs rfl s (by rw[l.length];exact b) (k α e S σ H _ vs Q j sl l q)
  .exact q.elim
 .exact q.elim
noncomputable def kE(r:Er)(S:Sto):R MV:=match r with
 |.val d=>.ok d S
 |.new ds=>.ok (.loc S.length) (S++[.lst ds])
def cT{g:Gm}(w:Wd g α S H)(x:Ext α0 H0 α H)(d:DenE g.K H0 α H r v):
  ∃j S' α',kE r S=.ok j S'/\Ext α0 H0 α' H/\Ex0 α H α' H/\Wd g α' S' H/\Den g.K α' H j v:=by
 cases r with
 |val j=>exact XV j S (α) rfl x ⟨⟨[],by simp⟩,λ_ _ h=>h,λ_ _ _ h=>h⟩ w d.1
 |new ds=>
  obtain⟨⟨c,k,rfl,b,a,i⟩,e⟩:=d;exact XV _ _ _ rfl (w.enterx x (e c rfl) a) (Ex0.grow α [c] H) (w.enter b a i) (qD (by rw[<-w.len,æ (à _),sub_self];rfl))
def HW(b:Rho)(i:Nat)(r:Er)(S:Sto):R Fl:=(kE r S).bind λd a=>.ok (.next (b.set i (some d))) a
def Xs(i){a:Pos}(w:X.N.Nodup)(b:zI X W e f)(hi:X.N[i]? =some x:=by rfl)(m:Loc ↑34 x:=by first |exact Or.inl rfl|exact Or.inr rfl)
  (hs:swapsWith e (some (.Name x a)) pos.line X.env=pure false:=by rfl) (hf:Q2 X x:=by first |exact .inl rfl|exact .inr rfl|assumption):
  OO X W (.Assign [.Name x a] e pos) (λj S=>(f j S).bind (HW j i)):=by
 refine b.a λt b k=>?_;refine Z3 _ (Vq w hi m b hs hf) (λα j S σ H D y sl q=>k α j S σ H _ y sl (q.expr λu r E n z e d s o c=>?_));refine(cT s d o).i λF C α' v h A p B=>?_;unfold HW at c;rw[v]at c;exact c _ α' z h p (((sl.ext d).ex0 A).set B)
def Oe(gf:↑24)(c:Rho)(r:Er)(S:Sto):R Fl:=(kE r S).bind λd b=>(gf d c b).bind λa e=>.ok (.next a) e
def Xt(h:zI X W e f)(c:Cj X W tg gf)(hs:swapsWithSole [tg] e pos.line X.env=pure false:=by rfl)(hw:swappedStores [tg] e X.env=pure none:=by rfl)
  (h1:(assignEach [tg] X.env).map (·.2)=[assign tg X.env]:=by rfl):OO X W (.Assign [tg] e pos) (λj S=>(f j S).bind (Oe gf j)):=by
 refine h.a λt h k=>?_;refine c.a λI c w=>?_;refine Z3 _ (Vo h c hs hw h1) (λα j S σ H D F sl q=>k α j S σ H _ F sl (q.expr λu r P s B e m z v a=>?_));refine(cT z m v).i λi n α' J p M y N=>?_;unfold Oe at a;rw[J]at a;have a:PostS X.g W α H D ((gf i j n).bind λG o=>.ok _ o):=a;exact w α' j n σ B i u _ y ((sl.ext m).ex0 M) N ((PostS.shift p a).expr λd E o b O Q K A C L=>L d b O K A C)
structure Wk where
 ds:List MV
 gs:List (Nat×List MV)
def stay(a:zA1)(S:Sto):Prop:= ∀p∈a,S[p.1]? =some (.lst p.2)
def W3(g:Gm)(J:It)(P:List Addr->Sto->Hp->Prop)(ds:X0):Prop:= ∀i α S H,P α S H->Wd g α S H->(i<↑12->J.go i H/\ ∀x H',J.yld i H x H'->Ext α H α H'/\Wd g α S H'/\P α S H'/\ ∃d,ds[i]? =some d/\Den g.K α H' d x)/\(↑12<=i->J.stop i H)
structure WkD(g:Gm)(α:B9)(S:Sto)(H:Hp)(k:Wk)(J:It)(P:List Addr->Sto->Hp->Prop):Prop where
 it:W3 g J P k.ds
 here:P α S H
 stays: ∀α1 S1 H1 α2 S2 H2,P α1 S1 H1->Ext α1 H1 α2 H2->Wd g α2 S2 H2->stay k.gs S2->P α2 S2 H2
 st:stay k.gs S
instance:Dn Wk It:=⟨λg _ α S H k J=> ∃P,WkD g α S H k J P,λ_ q=>q⟩
abbrev KC(X:Cx)(W:XW)(tg iter:Expr)(f:Rho->Sto->R Wk):Prop:=Jd X W (PI X tg iter) f
variable{tg iter:Expr}
theorem BC:W3 X.g (zBR X.K a) (λα S H=> ∃vs,SqL X.K H a vs/\DenL X.K α H ds vs) ds:=by intro i α S H ⟨vs,s,l⟩ w;have e:=l.length;refine⟨λhi=>?_,λhi=>(Z3 vs s (by lia))⟩;refine⟨(YS vs _ s (gE #[0])),λx H' y=>?_⟩;refine V0 λh=>?_;obtain⟨rfl,y⟩:=y;refine(l.get (y vs s)).a λd b c=>?_;refine h ?_;exact⟨Ext.refl _ _,w,(Z3 vs s l),d,b,c⟩
theorem ZD:W3 X.g (zBS X.K a) (λα S H=> ∃vs,SqT X.K H a vs/\DenL X.K α H ds vs) ds:=by intro i α S H ⟨vs,s,l⟩ w;have e:=l.length;refine⟨λhi=>?_,λhi=>(Z3 vs s (by lia))⟩;refine⟨(YS vs _ s (gE #[0])),λx H' y=>?_⟩;refine V0 λh=>?_;obtain⟨rfl,y⟩:=y;refine(l.get (y vs s)).a λd b c=>?_;refine h ?_;exact⟨Ext.refl _ _,w,(Z3 vs s l),d,b,c⟩
noncomputable def GH:Er->Sto->R Wk
 |.new ds,S=>.ok ⟨ds,[]⟩ S
 |.val (.scr ds),S=>.ok ⟨ds,[]⟩ S
 |.val (.loc l),S=>match S[l]? with
  |some (.lst ds)=>.ok ⟨ds,[(l,ds)]⟩ S
  |_=>.no
 |_,_=>.no
def jT:stay [] S:=λp h=>by simp at h
def Og(T:zI X W iter f):KC X W tg iter (λU S=>(f U S).bind GH):=by
 refine T.a λt T k=>?_;refine Z3 _ (Mp T) (λα U S σ H Rc wd sl q=>k α U S σ H _ wd sl (q.bind λu p S1 aa H1 e x1 O Q v=>?_))
 replace v:=v.shift x1
 unfold GH at v;split at v
 .rename_i S0 C;obtain⟨⟨b,vs,rfl,D,Z,P⟩,h4⟩:=Q;refine ZB b rfl ⟨vs,.of D⟩ (v.here O ⟨λd A m=> ∃vs,SqL X.K m b vs/\DenL X.K d m C vs/\m b=some (.lst vs)/\b∉d,?_,⟨vs,.of D,P,D,Z⟩,?_,jT⟩)
  .intro i d A m ⟨j,z,w,r,L⟩ F;obtain⟨B,E⟩:=BC i d A m (Z3 j z w) F;refine⟨λhi=>⟨(B hi).1,λx H' y=>?_⟩,E⟩;refine((B hi).2 x H' y).h λG J j3 N=>?_;obtain⟨rfl,_⟩:=y;exact⟨G,J,⟨j,z,w,r,L⟩,N⟩
  .intro d A m M S3 H3 ⟨j,z,w,r,L⟩ x w3 _;exact⟨j,.of (x.keep b _ r L),w.ext x,x.keep b _ r L,x.out r L⟩
 .rename_i S0 C;refine(HU Q.1).c λa vs g s l=>?_;subst g;refine ZB a rfl ⟨vs,s.l⟩ (v.here O ⟨λd A m=> ∃vs,SqL X.K m a vs/\DenL X.K d m C vs/\SqF X.K m a vs,?_,(ZB vs s.l l s),?_,jT⟩)
  .intro i d A m ⟨j,z,w,r⟩ F;obtain⟨B,E⟩:=BC i d A m (Z3 j z w) F;refine⟨λhi=>⟨(B hi).1,λx H' y=>?_⟩,E⟩;refine((B hi).2 x H' y).h λG J j3 N=>?_;obtain⟨rfl,_⟩:=y;exact⟨G,J,(ZB j z w r),N⟩
  .intro d A m M S3 H3 ⟨j,z,w,r⟩ x w3 _;exact ZB j ((x.sqF r).l) (w.ext x) (x.sqF r)
 .rename_i S0 n;refine(iA Q.1).a λa u h=>?_;subst u;refine(O.of h).a λo D Z=>?_;rw[D]at v
  cases o with
  |lst C=>
   refine Z.a λvs P l=>?_;refine ZB a rfl ⟨vs,.of P⟩ (Post.here v O ⟨λd A m=> ∃vs,SqL X.K m a vs/\DenL X.K d m C vs/\d[n]? =some a,?_,(ZB vs (.of P) l h),?_,?_⟩)
   .intro i d A m ⟨j,z,w,r⟩ F;obtain⟨B,E⟩:=BC i d A m (Z3 j z w) F;refine⟨λhi=>⟨(B hi).1,λx H' y=>?_⟩,E⟩;refine((B hi).2 x H' y).h λG J j3 N=>?_;obtain⟨rfl,_⟩:=y;exact⟨G,J,(ZB j z w r),N⟩
   .intro d A m M S3 H3 ⟨j,z,w,r⟩ x w3 hs;have I:=x.at r;have:=w3.obj n a _ I (hs (n,C) (by simp));refine this.a λY b1 b2=>?_;exact ZB Y (.of b1) b2 I
   .intro p hp;have:=by simpa using hp
    subst this;exact D
  |dic C=>exact v.elim
  |ins c fs=>exact v.elim
  |rcd c fs=>exact v.elim
  |fdc _=>exact v.elim
 .exact v.elim
noncomputable def ZE:Er->Sto->R Wk
 |.val (.tup ds),S=>.ok ⟨ds,[]⟩ S
 |_,_=>.no
def Xu(d:zI X W iter f):KC X W tg iter (λj S=>(f j S).bind ZE):=by
 refine d.a λt d k=>?_;refine Z3 _ (Vs d) (λα j S σ H E r sl q=>k α j S σ H _ r sl (q.bind λu p z m B e v o n b=>?_))
 replace b:=b.shift v
 unfold ZE at b;split at b
 .rename_i F A;refine(bF n.1).c λa vs g s l=>?_;subst g;exact ZB a rfl ⟨vs,s⟩ (b.here o ⟨_,ZD,(Z3 vs s l),λh G J w C D ⟨c,i,y⟩ x I _=>(Z3 c (x.sqT i) (y.ext x)),jT⟩)
 .exact b.elim
noncomputable def zBX:Er->Sto->R Wk
 |.val (.str x),S=>.ok ⟨x.map λc=>.str [c],[]⟩ S
 |_,_=>.no
def Xv(b:zI X W iter f):KC X W tg iter (λj S=>(f j S).bind zBX):=by
 refine b.a λt b k=>?_;refine Z3 _ (Wu b) (λα j S σ H B o sl q=>k α j S σ H _ o sl (q.bind λu p z h A e r n m a=>?_))
 replace a:=a.shift r
 unfold zBX at a;split at a
 .rename_i C x;exact⟨x,jM m.1,a.here (u:=V5 x) n ⟨_,(by intro i α S H _ w;refine⟨λhi=>⟨show i<x.length by simpa using hi,λv H' y=>?_⟩,λhi=>by show x.length<=i;simpa using hi⟩;obtain⟨rfl,c,d,s⟩:=y;refine⟨Ext.refl _ _,w,trivial,.str [c],by rw[ó,d];rfl,?_⟩;rw[s];exact mE [c]),trivial,λ_ _ _ _ _ _ _ _ _ _=>trivial,jT⟩⟩
 .exact a.elim
noncomputable def nY:List Er->Sto->R Wk
 |[.val (.int j)],S=>if -(2 ^ 62)<=j/\j<2 ^ 62 then .ok ⟨(List.range j.toNat).map λk=>.int (k:Nat),[]⟩ S else .no
 |_,_=>.no
variable{a:Expr}
def LW{K:U0}(d:ArgsE K H0 α H [r] vs): ∃v,vs=[v]/\DenX K α H r v:=by
 cases d with
 |cons a n l=>cases l;exact Z3 _ rfl a.1
def Tr{K:U0}(d:ArgsE K H0 α H [r,r'] vs): ∃v u,vs=[v,u]/\DenX K α H r v/\DenX K α H r' u:=by
 cases d with
 |cons a n l=>refine(LW l).a λu c b=>?_;subst c;exact Z0 _ u rfl a.1 b
def Cm(r:Gl X "range")(hm:X.mg "range"=none)(c:GF X W [a] af)(hs:starEach [a] X.env=[↑62]:=by rfl):KC X W tg (.Call (.Name "range" p) [a] [] pos) (λm S=>(af m S).bind nY):=by
 refine c.a λt c k=>?_;refine Z3 _ (Bu r hm c hs) (λα m S σ H D s sl q=>k α m S σ H _ s sl (q.bind λvs A B h C e u o n b=>?_))
 replace b:=b.shift u
 unfold nY at b;split at b
 .split at b
  .rename_i E j d;refine(LW n).a λv v z=>?_;subst v;cases yM z;have:=(show W3 X.g (zBT 0 (j.toNat)) (λ_ _ _=>True) ((List.range (j.toNat)).map λk=>.int (0+(k:Nat))) by intro i α S H _ w;refine⟨λhi=>⟨show i<(j.toNat) by simpa using hi,λv H' y=>?_⟩,λhi=>by show (j.toNat)<=i;simpa using hi⟩;obtain⟨rfl,y⟩:=y;refine⟨Ext.refl _ _,w,trivial,_,by rw[ó,List.getElem?_range (by simpa using hi)];rfl,?_⟩;rw[y];exact xM _);simp only[Int.zero_add]at this;exact⟨j,rfl,d.1,d.2,b.here o ⟨_,this,trivial,λ_ _ _ _ _ _ _ _ _ _=>trivial,jT⟩⟩
  .exact b.elim
 .exact b.elim
open Classical in
noncomputable def yZ(gf:↑24)(body:AY)(a:zA1):List MV->AY
 |[],ρ,S=>.ok (.next ρ) S
 |d::ds,ρ,S=>(gf d ρ S).bind λm q=>(body m q).bind λu j=>match u with
  |.next ρ'=>if stay a j then yZ gf body a ds ρ' j else .no
  |.cont ρ'=>if stay a j then yZ gf body a ds ρ' j else .no
  |.brk ρ'=>.ok (.next ρ') j
  |.ret r=>.ok (.ret r) j
open Classical in
def Xw{Y:Rho->Sto->R Wk}{gf:↑24}(hp:PassesOwn ↑4 X.A X.env X.xe)(hc:X.calm=true)(hi:KC X W tg iter Y)(hg:Cj X W tg gf)(hb:DX X W as F)
  (hs: ∀y,foldedSetIterable iter X.env y=pure y:=by intro _;rfl):OO X W (.For tg iter as [] pos) (λZ S=>(Y Z S).bind λk S1=>yZ gf F k.gs k.ds Z S1):=by
 obtain⟨wi,hi,ki⟩:=hi;obtain⟨ah,hg,kg⟩:=hg;obtain⟨tb,hb,kb⟩:=hb;refine⟨_,Vt hp hc hi hg hb hs,λα Z S σ H D wd sl q=>ki α Z S σ H _ wd sl (q.expr λJ k S1 ab H1 e x1 w1 d1 q1=>?_)⟩;obtain⟨P,hP⟩:=d1;have af:=sl.ext x1
 replace q1:=PostS.shift x1 q1
 refine⟨λn m B T=>m=k.ds.length - n/\n<=k.ds.length/\ ∃b u Q,Wd X.g b Q T/\Slots X.K b T u B/\P b Q T/\PostS X.g W b T D (yZ gf F k.gs (k.ds.drop n) u Q),⟨_,rfl,zero_le _,ab,Z,S1,w1,af,hP.here,by simpa using q1⟩,?_⟩;rintro n m B T ⟨rfl,hn,b,u,Q,w2,aa,p2,M⟩;obtain⟨i1,i2⟩:=hP.it n b Q T p2 w2;by_cases E:n<k.ds.length
 .obtain⟨go,yl⟩:=i1 E;refine .inr ⟨go,λU z=> ∃i s S3,Wd X.g i S3 z/\Slots X.K i z s U/\P i S3 z/\PostS X.g W i z D (yZ gf F k.gs (k.ds.drop (n+1)) s S3),λU z ⟨i,s,S3,h3⟩=>⟨k.ds.length - (n+1),by omega,rfl,E,i,s,S3,h3⟩,λv z y=>?_⟩;obtain⟨x3,w3,p3,d,hd,dv⟩:=yl v z y;have N:k.ds.drop n=d::k.ds.drop (n+1):=by rw[ĭ E];have:=gE E;rw[hd]at this;rw[<-ä this]
  rw[N]at M;unfold yZ at M
  replace M:=PostS.shift x3 M
  refine kg b u Q B z d v _ w3 (aa.ext x3) dv (M.expr λae ag S4 C H4 e4 x4 w4 s4 q4=>?_);have p4: ∀a c H5,Ext C H4 a H5->Wd X.g a c H5->stay k.gs c->P a c H5:=λa c H5 p o L=>hP.stays b Q z a c H5 p3 (x4.trans p) o L;refine kb C ag S4 ae H4 _ w4 s4 ((PostS.shift x4 q4).stmt ?_ ?_ ?_ ?_)
  .intro j c G a H5 e5 p o L O;have h:PostS X.g W C H4 D (if stay k.gs c then yZ gf F k.gs (k.ds.drop (n+1)) j c else .no):=O;split at h
   .rename_i I;exact⟨a,j,c,o,L,p4 a c H5 p o I,PostS.shift p h⟩
   .exact h.elim
  .intro r c v5 a H5 e5 p o d5 O;exact O v5 a H5 p o d5
  .intro j c G a H5 e5 p o L O;exact O G a H5 p o L
  .intro j c G a H5 e5 p o L O;have h:PostS X.g W C H4 D (if stay k.gs c then yZ gf F k.gs (k.ds.drop (n+1)) j c else .no):=O;split at h
   .rename_i I;exact⟨a,j,c,o,L,p4 a c H5 p o I,PostS.shift p h⟩
   .exact h.elim
 .have e:n=k.ds.length:=by omega
  subst e;refine .inl ⟨i2 (à _),?_⟩;rw[List.drop_length]at M;exact M B b T (Ext.refl _ _) w2 aa
end
noncomputable def noX:R β->R β
 |.ok b S=>.ok b S
 |_=>.no
theorem yS(b:β)(S):noX (R.ok b S)=.ok b S:=rfl
def Post.bindY[Dn β τ][Dn γ υ]{g:Gm}{W:XW}{α α':B9}{H H':Hp}(x:Ext α H α' H'){m:R β}{k:β->Sto->R γ}{Q:υ->Hp->Prop}{a:τ->Hp->Prop}(q:Post g W α H ((noX m).bind k) Q)
  (f: ∀u b B j z,m=.ok b B->Ext α' H' j z->Wd g j B z->Dn.d g H' j B z b u->Post g W α H (k b B) Q->a u z):Post g W0 α' H' m a:=by
 cases m with
 |ok b S=>exact λu j z x w d=>f u b S j z rfl x w d q
 |exc c fs S=>exact q.elim
 |no=>exact q
theorem R.bind_assoc(m:R β)(k1)(a:γ->Sto->R δ):(m.bind k1).bind a=m.bind λb S=>(k1 b S).bind a:=by cases m<;>rfl
noncomputable def vH(nt:Nat)(a:Db)(b:Rho):Rho:=List.replicate nt none++a.map λi=>(b[i]?).join
open Classical in
noncomputable def yD(gf:↑24)(cf:AZ)(ef:AX)(ρb:Rho)(a:zA1):List MV->Sto->R (List MV)
 |[],S=>.ok [] S
 |d::ds,S=>(noX (gf d ρb S)).bind λj z=>(noX (cf j z)).bind λk m=>
  if k=true then(noX (ef j m)).bind λr S2=>(kE r S2).bind λy q=>if stay a q then(yD gf cf ef ρb a ds q).bind λout u=>.ok (y::out) u else .no
  else if stay a m then yD gf cf ef ρb a ds m else .no
theorem Co{K:U0}(q:Slots K α H ρ σ)(nt)(idx)(τ)(a:τ.length=nt):Slots K α H (vH nt idx ρ) (τ++DU σ idx):=by
 refine⟨by unfold vH;rw[lA,lA,lZ,lM,đ,a],λi d e=>?_⟩;unfold vH at e;by_cases hi:i<nt
 .rw[â (by rw[đ];exact hi),List.getElem?_replicate]at e;split at e<;>cases e
 .rw[æ (by rw[đ];lia),đ,ó]at e
  cases z:idx[i - nt]? with
  |none=>rw[z]at e;cases e
  |some k=>
   rw[z]at e;have b:(ρ[k]?).join=some d:=ä e
   cases c:ρ[k]? with
   |none=>rw[c]at b;cases b
   |some o=>
    rw[c]at b;subst b;refine(q.slot k d c).a λv h j=>?_;refine Z3 v ?_ j;rw[æ #[0],a];unfold DU;rw[ó,z];show some (σ[k]?).join=some _;rw[h];rfl
def Keeps(nt:Nat)(σ:St)(Q:St->Hp->Prop):St->Hp->Prop:=λa H'=>↑67=σ.length->(∀j,nt<=j->a[j]? =σ[j]?)->Q a H'
def Ma(nt:Nat)(X:Cx)(W:XW)(tg:Expr)(gf:↑24):Prop:=
 ∃t,PG X tg t/\ ∀α a S σ H d v Q,Wd X.g α S H->Slots X.K α H a σ->Den X.K α H d v->Post X.g W α H (gf d a S) (Keeps nt σ Q)->t v σ H Q
def Gz(nt:Nat)(X:Cx)(W:XW)(a:Q0)(gf:List MV->Rho->Sto->R Rho):Prop:=
 ∃t,M4 X a t/\ ∀α c S σ H b vs Q,Wd X.g α S H->Slots X.K α H c σ->DenL X.K α H b vs->Post X.g W α H (gf b c S) (Keeps nt σ Q)->t vs σ H Q
section
variable{X:Cx}{W:XW}{pos:Pos}{nt:Nat}
theorem Oh(i)(c:X.N.Nodup)(hi:X.N[i]? =some x:=by rfl)(a:Loc ↑34 x:=by first |exact Or.inl rfl|exact Or.inr rfl)(b:Q2 X x:=by first |exact .inl rfl|exact .inr rfl|assumption)(h:i<nt:=by decide):
  Ma nt X W (.Name x pos) (zV i):=(Z3 _ (YT c hi a b) (λα m S σ H d v Q k sl e q=>Post.here q k (sl.set e) (by rw[ċ]) λj n=>by rw[Ġ #[0]]))
def Xx:Gz nt X W [] zY:=(Z3 _ YU (λα e S σ H a vs Q b sl c q=>by
 cases a with
 |nil=>exact⟨c.isnil,Post.here q b sl rfl λ_ _=>rfl⟩
 |cons d a=>exact q.elim))
def Post.keeps{m:R Rho}(k:σ1.length=σ.length)(n: ∀j,nt<=j->σ1[j]? =σ[j]?)(q:Post g W α H m (Keeps nt σ Q)):Post g W α H m (Keeps nt σ1 Q):=by
 cases m with
 |ok b S=>exact λu a i x w d h o=>q u a i x w d (h.trans k) λj e=>(o j e).trans (n j e)
 |exc c fs S=>exact q
 |no=>exact q
def Oi(c:Ma nt X W e g1)(k:Gz nt X W es g2)(hs:(assignEach (e::es) X.env).map (·.2)=assign e X.env::(assignEach es X.env).map (·.2):=by rfl):Gz nt X W (e::es) (zB g1 g2):=by
 refine c.a λD c b=>?_;refine k.a λE k A=>?_;refine Z3 _ (RS c k hs) (λα B S σ H i vs Q z sl C q=>?_)
 cases i with
 |nil=>exact q.elim
 |cons d i=>
  refine C.uncons.c λv r g a l=>?_;subst g;refine YS v r rfl (b α B S σ H d v _ z sl a (Post.bind q λu p w h y e m s n o b j=>A h p w u y i r Q s n (l.ext m) (Post.keeps b j (o.shift m))))
def Xy{k:Nat}(c:X.calm=true)(h:Gz nt X W es g2)
  (hn:(assignEach es X.env).length=n:=by rfl) (hst:(assignEach es X.env).findIdx? (·.1)=none:=by rfl):Ma nt X W (.Tuple es k pos) (iB n g2):=by
 refine h.a λt h k=>?_;refine Z3 _ (Fp c h hn hst) (λα e S σ H d v Q j sl i q=>?_);unfold iB at q;split at q
 .split at q
  .rename_i b;refine(yQ i).c λa vs g s l=>?_;subst g;exact Ym a vs rfl s (by rw[l.length];exact b) (k α e S σ H _ vs Q j sl l q)
  .exact q.elim
 .exact q.elim
end
abbrev SN(X:Cx)(W:XW)(a:Q0)(f:AZ):Prop:=Jd X W (Cd X a) f
section
variable{X:Cx}{W:XW}{iter:Expr}{c:Expr}{pos:Pos}
def Oj:SN X W [] (λ_ S=>.ok true S):=(Z3 _ (λ_ _ _ H _ I h=>wpAny_tests_nil (Z3 H I h)) (λα b S σ H Q a sl q=>q.here a rfl))
def Ol(h:uZ X W c tf):SN X W [c] tf:=let ⟨t,h,k⟩:=h;(Z3 t (λpins s σ H Q I q=>wpAny_tests_one (h pins s σ H Q I q)) k)
open Classical in
def ZF{C:Cx->Prop}{ag tg:Expr}{af:Q0}{Z:Scope}{ai:Rho->Sto->R Wk}{cf:AZ}{ef:AX}{gf:↑24}(aj:Scope)(N:C0)(T:C0)(a:Db)
  (hi:Jd X W (R1 C X tg iter) ai) (hCx: ∀c z Y fp pins σ,Inv X pins σ Y z->C (zS X Z T a c z Y fp))
  (hg: ∀C z B fp,([]++T++a.map λi=>(N[i]?).getD Str.empty).Nodup->Ma ↑37 (zS X Z T a C z B fp) W0 tg gf)
  (hc: ∀C z B fp,SN (zS X Z T a C z B fp) W0 af cf) (he: ∀C z B fp,zI (zS X Z T a C z B fp) W0 ag ef)
  (e1:↑34=aj:=by rfl) (e2:X.N=N:=by rfl) (hB:vF aj N Z a=true:=by decide+kernel) (hN:([]++T++a.map λi=>(N[i]?).getD Str.empty).Nodup:=by decide+kernel)
  (hs: ∀y,foldedSetIterable iter X.env y=pure y:=by intro _;rfl):
  Jd (β:=Er) (τ:=V) X W (λt=>PE X (.ListComp ag [⟨tg,iter,af,0⟩] Z pos) t/\PU X (.ListComp ag [⟨tg,iter,af,0⟩] Z pos) t) (λG S=>(ai G S).bind λk S1=>if k.ds.length<1000000 then(yD gf cf ef (vH ↑37 a G) k.gs k.ds S1).bind λout S2=>.ok (.new out) S2 else .no):=by
 obtain⟨wi,hi,ki⟩:=hi;subst e1 e2;have a0:(1000000:Nat)<sizeLine:=by rw[ĝ];decide
 have ar: ∃t,(∀C z B fp,PG (zS X Z T a C z B fp) tg t)/\ ∀α G S σ H d v Q,Wd X.g α S H->Slots X.K α H G σ->Den X.K α H d v->Post X.g W0 α H (gf d G S) (Keeps ↑37 σ Q)->t v σ H Q:=by refine⟨λv σ H Q=> ∃α G S d,Wd X.g α S H/\Slots X.K α H G σ/\Den X.K α H d v/\Post X.g W0 α H (gf d G S) (Keeps ↑37 σ Q),λC z B fp pins s σ H v u Q I r ⟨α,G,S,d,h1,h2,h3,h4⟩=>?_,λα G S σ H d v Q h1 h2 h3 h4=>⟨α,G,S,d,h1,h2,h3,h4⟩⟩;obtain⟨t,ht,kt⟩:=hg C z B fp hN;exact ht pins s σ H v u Q I r (kt α G S σ H d v Q h1 h2 h3 h4)
 obtain⟨az,ak,kg⟩:=ar;refine⟨_,⟨Nj T a hi hCx hB ak (λC z B fp=>(ā (hc C z B fp)).1) (λC z B fp=>(ā (he C z B fp)).1) hs,Nn T a hi hCx hB ak (λC z B fp=>(ā (hc C z B fp)).1) (λC z B fp=>(ā (he C z B fp)).1) hs⟩,λα G S σ H Q wd sl q=>ki α G S σ H _ wd sl (q.bind λJ k S1 aq B e1 x1 w1 d1 q1=>?_)⟩;obtain⟨P,hP⟩:=d1;split at q1
 .rename_i aw
  refine⟨λn m ys Y=>m=k.ds.length - n/\n<=k.ds.length/\↑40<=n/\ ∃w S2,Ext α H w Y/\Wd X.g w S2 Y/\P w S2 Y/\ ∃h,DenL X.K w Y h ys/\Post X.g W α H ((yD gf cf ef (vH ↑37 a G) k.gs (k.ds.drop n) S2).bind λo A=>.ok (Er.new (h++o)) A) Q,
   ⟨_,rfl,zero_le _,à _,aq,S1,x1,w1,hP.here,[],zZ,by simpa using q1⟩,?_⟩
  rintro n m ys Y ⟨rfl,hn,hy,w,S2,x2,w2,p2,h,l,q2⟩;obtain⟨i1,i2⟩:=hP.it n w S2 Y p2 w2;refine⟨by omega,?_⟩;by_cases E:n<k.ds.length
  .obtain⟨go,yl⟩:=i1 E;refine .inr ⟨go,by omega,λv H3 y τ L=>?_⟩;obtain⟨x3,w3,p3,d,hd,dv⟩:=yl v H3 y;have ah:k.ds.drop n=d::k.ds.drop (n+1):=by rw[ĭ E];have:=gE E;rw[hd]at this;rw[<-ä this]
   rw[ah]at q2;unfold yD at q2;have av:=Co (sl.ext (x2.trans x3)) ↑37 a τ L;refine kg w (vH ↑37 a G) S2 _ H3 d v _ w3 av dv ?_;rw[R.bind_assoc]at q2;refine q2.bindY (x2.trans x3) λM ao S4 ab H4 e4 x4 w4 s4 q4 aa au=>⟨⟨M.take ↑37,?_,?_⟩,λC z fp=>?_⟩
   .refine ext_getElem? λj=>?_;have a3:M.length=↑37+a.length:=by rw[aa,lA,lZ,L]
    by_cases hj:j<↑37
    .rw[â (by rw[lT];omega),ı hj]
    .rw[au j (by omega),æ (by omega),æ (by rw[lT];omega),L,lT,min_eq_left (by omega)]
   .rw[lT,aa,lA,lZ,L];omega
   have O:Ext α H ab H4:=(x2.trans x3).trans x4;have p4: ∀p U H5,Ext ab H4 p H5->Wd X.g p U H5->stay k.gs U->P p U H5:=λp U H5 F w5 s5=>hP.stays w S2 H3 p U H5 p3 (x4.trans F) w5 s5;rw[R.bind_assoc]at q4;refine(ā (hc C z B fp)).2 ab ao S4 M H4 _ w4 s4 (q4.bindY O λb5 ay U p H5 e5 F w5 d5 q5=>?_);cases d5
   cases b5 with
   |false=>
    rw[iN xF0]at q5 ⊢;split at q5
    .rename_i ae;exact⟨k.ds.length - (n+1),by omega,rfl,E,by omega,p,U,O.trans F,w5,p4 p U H5 F w5 ae,h,(l.ext (x3.trans x4)).ext F,q5⟩
    .exact q5.elim
   |true=>
    rw[iP rfl,R.bind_assoc]at q5;rw[iP rfl];refine(ā (he C z B fp)).2 p ao U M H5 _ w5 (s4.ext F) (q5.bindY (O.trans F) λy6 r6 S6 ax H6 e6 x6 w6 d6 q6=>?_);obtain⟨d',A,α',e7,x7,y7,w7,de⟩:=cT w6 x6 d6;rw[e7]at q6;have q6:Post X.g W α H ((if stay k.gs A then(yD gf cf ef (vH ↑37 a G) k.gs (k.ds.drop (n+1)) A).bind λout S4=>.ok (d'::out) S4 else .no).bind λo A=>.ok (Er.new (h++o)) A) Q:=q6;split at q6
    .rename_i ae;refine⟨k.ds.length - (n+1),by omega,rfl,E,by rw[lA,lS];omega,α',A,(O.trans F).trans x7,w7,p4 α' A H6 (F.trans x7) w7 ae,h++[d'],((l.ext (x3.trans x4)).ext (F.trans x7)).append (zQ de zZ),?_⟩;rw[R.bind_assoc]at q6;have e8:(λ(o:X0) (A:Sto)=>R.ok (Er.new ((h++[d'])++o)) A)=(λ(b:X0) S=>(R.ok (d'::b) S).bind λo A=>.ok (Er.new (h++o)) A):=by funext o A;show _=R.ok (Er.new (h++(d'::o))) A;rw[aA];rfl
     rw[e8];exact q6
    .exact q6.elim
  .have e:n=k.ds.length:=by omega
   subst e;rw[List.drop_length]at q2;have q3:Post X.g W α H (.ok (Er.new (h++[])) S2) Q:=q2;rw[aN]at q3;exact .inl ⟨i2 (à _),λD hD=>(q3.shift x2).newl w2 hD l⟩
 .exact q1.elim
open Classical in
def Om{c tg:Expr}{n:Q0}{e:Scope}{d:Rho->Sto->R Wk}{cf:AZ}{ef:AX}{gf:↑24}(b:Scope)(N:C0)(T:C0)(a:Db)
  (hi:KC X W tg iter d) (hcalm:X.calm=true)
  (hg: ∀C j m fp,([]++T++a.map λi=>(N[i]?).getD Str.empty).Nodup->Ma ↑37 (zS X e T a C j m fp) W0 tg gf)
  (hc: ∀C j m fp,SN (zS X e T a C j m fp) W0 n cf) (he: ∀C j m fp,zI (zS X e T a C j m fp) W0 c ef)
  (e1:↑34=b:=by rfl) (e2:X.N=N:=by rfl) (hB:vF b N e a=true:=by decide+kernel) (hN:([]++T++a.map λi=>(N[i]?).getD Str.empty).Nodup:=by decide+kernel)
  (hs: ∀y,foldedSetIterable iter X.env y=pure y:=by intro _;rfl):
  zI X W (.ListComp c [⟨tg,iter,n,0⟩] e pos) (λq S=>(d q S).bind λk u=>if k.ds.length<1000000 then(yD gf cf ef (vH ↑37 a q) k.gs k.ds u).bind λout S2=>.ok (.new out) S2 else .no):=let ⟨t,h,k⟩:=(ZF b N T a hi (λ_ _ _ _ _ _ _=>hcalm) hg hc he e1 e2 hB hN hs);⟨t,h.1,k⟩
open Classical in
def On{x:Str}{b c:Pos}(i:Nat)(v:X.N.Nodup){m tg:Expr}{n:Q0}{o:Scope}{p:Rho->Sto->R Wk}{cf:AZ}{ef:AX}{gf:↑24}(d:Scope)(N:C0)(T:C0)(a:Db)
  (hi:KC X W tg iter p) (hcalm:X.calm=true)
  (hg: ∀C j z fp,([]++T++a.map λi=>(N[i]?).getD Str.empty).Nodup->Ma ↑37 (zS X o T a C j z fp) W0 tg gf)
  (hc: ∀C j z fp,SN (zS X o T a C j z fp) W0 n cf) (he: ∀C j z fp,zI (zS X o T a C j z fp) W0 m ef)
  (G:↑34=d:=by rfl) (e2:X.N=N:=by rfl) (hB:vF d N o a=true:=by decide+kernel) (hN:([]++T++a.map λi=>(N[i]?).getD Str.empty).Nodup:=by decide+kernel)
  (hs: ∀y,foldedSetIterable iter X.env y=pure y:=by intro _;rfl)
  (hi2:X.N[i]? =some x:=by rfl) (hx:Loc ↑34 x:=by first |exact Or.inl rfl|exact Or.inr rfl)
  (hsw:swapsWith (.ListComp m [⟨tg,iter,n,0⟩] o pos) (some (.Name x b)) c.line X.env=pure true:=by with_unfolding_all rfl) (hf:Q2 X x:=by first |exact .inl rfl|exact .inr rfl|assumption):
  OO X W (.Assign [.Name x b] (.ListComp m [⟨tg,iter,n,0⟩] o pos) c) (λB S=>((p B S).bind λk I=>if k.ds.length<1000000 then(yD gf cf ef (vH ↑37 a B) k.gs k.ds I).bind λout S2=>.ok (.new out) S2 else .no).bind (HW B i)):=by
 obtain⟨t,h,k⟩:=(ZF d N T a hi (λ_ _ _ _ _ _ _=>hcalm) hg hc he G e2 hB hN hs)
 refine⟨_,h.2 i x b c v hi2 hx hf hsw,λα B S σ H D L sl q=>k α B S σ H _ L sl (q.expr λu r I E z e w K F s=>?_)⟩;obtain⟨P,Q,α',G,A,M,J,O⟩:=cT K w F;unfold HW at s;rw[G]at s;exact s _ α' z A J (((sl.ext w).ex0 M).set O)
end
mutual
def lo(n:Nat):MV->Prop
 |.loc l=>l<n
 |.tup ds=>AW n ds
 |.scr ds=>AW n ds
 |.obj _ _ ds=>AW n ds
 |_=>True
def AW(n:Nat):List MV->Prop
 |[]=>True
 |d::ds=>lo n d/\AW n ds
end
def loO(n:Nat):MO->Prop
 |.lst ds=>AW n ds
 |.dic kvs=> ∀p∈kvs,lo n p.1/\lo n p.2
 |.ins _ fs=> ∀p∈fs,lo n p.2
 |.rcd _ fs=> ∀p∈fs,lo n p.2
 |.fdc kvs=> ∀p∈kvs,lo n p.1/\lo n p.2
section
variable{K:U0}{α t:B9}{H:Hp}
mutual
theorem Den.back: ∀{d:MV}{v:V},Den K (α++t) H d v->lo α.length d->Den K α H d v
 |.non,_,q,_=>by cases aL q;exact uF
 |.bl _,_,q,_=>by cases pD q;exact wN _
 |.int _,_,q,_=>by cases xR q;exact xM _
 |.str _,_,q,_=>by cases xE q;exact mE _
 |.typ _,_,q,_=>by cases cR q;exact YZ _
 |.obj c ns ds,_,q,h=>by obtain⟨a,C,u,vs,o,rfl,e,hn,m,j,l⟩:=cQ q;exact Nq e hn m j (DenL.back l (by unfold lo at h;exact h))
 |.loc l,_,q,h=>by
  obtain⟨a,rfl,e⟩:=bE q;have j:l<α.length:=by unfold lo at h;exact h
  rw[â j]at e;exact qD e
 |.tup ds,_,q,h=>by obtain⟨a,vs,rfl,s,l⟩:=yQ q;exact eO s (DenL.back l (by unfold lo at h;exact h))
 |.scr ds,_,q,h=>by obtain⟨a,vs,rfl,s,l⟩:=cS q;exact ZA s (DenL.back l (by unfold lo at h;exact h))
theorem DenL.back: ∀{ds:X0}{vs:List V},DenL K (α++t) H ds vs->AW α.length ds->DenL K α H ds vs
 |[],_,q,_=>by rw[q.isnil];exact zZ
 |d::ds,_,q,h=>by obtain⟨v,r,rfl,a,l⟩:=q.uncons;unfold AW at h;exact zQ (Den.back a h.1) (DenL.back l h.2)
end
mutual
theorem Den.lo: ∀{d:MV}{v:V},Den K α H d v->lo α.length d
 |.non,_,q=>by unfold M.lo;trivial
 |.bl _,_,q=>by unfold M.lo;trivial
 |.int _,_,q=>by unfold M.lo;trivial
 |.str _,_,q=>by unfold M.lo;trivial
 |.typ _,_,q=>by unfold M.lo;trivial
 |.obj c ns ds,_,q=>by obtain⟨a,C,m,vs,o,rfl,e,hn,u,j,l⟩:=cQ q;unfold M.lo;exact DenL.lo l
 |.loc l,_,q=>by obtain⟨a,rfl,e⟩:=bE q;unfold M.lo;exact(gS.mp e).1
 |.tup ds,_,q=>by obtain⟨a,vs,rfl,s,l⟩:=yQ q;unfold M.lo;exact DenL.lo l
 |.scr ds,_,q=>by obtain⟨a,vs,rfl,s,l⟩:=cS q;unfold M.lo;exact DenL.lo l
theorem DenL.lo: ∀{ds:X0}{vs:List V},DenL K α H ds vs->AW α.length ds
 |[],_,q=>by unfold AW;trivial
 |d::ds,_,q=>by obtain⟨v,r,rfl,a,l⟩:=q.uncons;unfold AW;exact⟨Den.lo a,DenL.lo l⟩
end
theorem DenK.back: ∀{fs j},DenK K (α++t) H fs j->(∀p∈fs,M.lo α.length p.1/\M.lo α.length p.2)->DenK K α H fs j
 |_,_,.nil,_=>.nil
 |_,_,.cons k a l,h=>.cons k (a.back (h _ mF0).2) (DenK.back l λp m=>h p (mO _ m))
def KeyD.lo(h:KeyD k k'):M.lo n k:=by
 unfold KeyD at h;split at h
 .unfold M.lo;trivial
 .unfold M.lo;trivial
 .exact h.elim
theorem DenK.lo: ∀{fs j},DenK K α H fs j-> ∀p∈fs,M.lo α.length p.1/\M.lo α.length p.2
 |_,_,.nil=>λp h=>by simp at h
 |_,_,.cons k a l=>λp h=>(mC.mp h).elim (λe=>by subst e;exact⟨k.lo,a.lo⟩) (DenK.lo l p)
theorem DenN.back: ∀{fs xs},DenN K (α++t) H fs xs->(∀p∈fs,M.lo α.length p.1/\M.lo α.length p.2)->DenN K α H fs xs
 |_,_,.nil,_=>.nil
 |_,_,.cons k e a d r l,h=>.cons k e (a.back (h _ mF0).1) (d.back (h _ mF0).2) r (DenN.back l λp j=>h p (mO _ j))
theorem DenN.lo: ∀{fs xs},DenN K α H fs xs-> ∀p∈fs,M.lo α.length p.1/\M.lo α.length p.2
 |_,_,.nil=>λp h=>by simp at h
 |_,_,.cons k e a d r l=>λp h=>(mC.mp h).elim (λz=>by subst z;exact⟨a.lo,d.lo⟩) (DenN.lo l p)
theorem DenF.back: ∀{fs j},DenF K (α++t) H fs j->(∀p∈fs,M.lo α.length p.2)->DenF K α H fs j
 |_,_,.nil,_=>.nil
 |_,_,.cons a l,h=>.cons (a.back (h _ mF0)) (DenF.back l λp m=>h p (mO _ m))
theorem DenF.lo: ∀{fs j},DenF K α H fs j-> ∀p∈fs,M.lo α.length p.2
 |_,_,.nil=>λp h=>by simp at h
 |_,_,.cons a l=>λp h=>(mC.mp h).elim (λe=>by subst e;exact a.lo) (DenF.lo l p)
def ObD.back(q:ObD g (α++t) H a o)(h:loO α.length o):ObD g α H a o:=by
 cases o with
 |lst ds=>refine q.a λvs b l=>?_;exact Z3 vs b (l.back h)
 |dic ds=>
  rcases q with⟨vs,b,l⟩|⟨vs,b,l⟩
  .exact .inl ⟨vs,b,l.back h⟩
  .exact .inr (Z3 vs b (l.back h))
 |ins c fs=>refine q.c λC d m l r=>?_;exact Z0 C d m (l.back h) r
 |rcd c fs=>refine q.g λC i d j=>j.e λm b l=>?_;exact YR C i d ⟨m,b,l.back h⟩
 |fdc kvs=>refine q.d λe xs b l=>?_;exact YS e xs b (l.back h)
def ObD.lo(q:ObD g α H a o):loO α.length o:=by
 cases o with
 |lst ds=>refine q.a λvs b l=>?_;exact l.lo
 |dic ds=>
  rcases q with⟨vs,b,l⟩|⟨vs,b,l⟩
  .exact l.lo
  .exact l.lo
 |ins c fs=>refine q.c λC d m l r=>?_;exact l.lo
 |rcd c fs=>refine q.g λC h d i=>i.e λm b l=>?_;exact l.lo
 |fdc kvs=>refine q.d λe xs b l=>?_;exact l.lo
end
def SO(S S2:Sto):Prop:=↑1<=S2.length/\ ∀l,l<↑1->S2[l]? =S[l]? \/ ∃o,S2[l]? =some o/\loO ↑1 o
open Classical in
noncomputable def jL(S:Sto)(r:Er)(S2:Sto):R Er:=
 if SO S S2 then match r with
  |.val (.loc l)=>if l<S.length then .ok r (S2.take S.length)else match S2[l]? with
   |some (.lst ds)=>if AW S.length ds then .ok (.new ds) (S2.take S.length)else .ok r S2
   |_=>.ok r S2
  |.val d=>if lo S.length d then .ok r (S2.take S.length)else .ok r S2
  |.new ds=>if AW S.length ds then .ok r (S2.take S.length)else .ok r S2
 else .ok r S2
theorem Oo(D:Ext α H α1 H1)(G:Wd g α1 S1 H1)(M: ∃t,α2=α1++t)(U:Ext α H α2 H1)(P:Ext α2 H1 α3 H3)(n:Wd g α3 S3 H3)(d:DenE g.K H1 α3 H3 r v):
  ∃O S' α',jL S1 r S3=.ok O S'/\Ext α H α' H3/\Wd g α' S' H3/\DenE g.K H α' H3 O v:=by
 have i:=U.trans P;have c:=d.back λb h=>D.free h;unfold jL;by_cases E:SO S1 S3
 .rw[iP E];obtain⟨t,B⟩: ∃t,α3=α1++t:=by obtain⟨t,e⟩:=M;obtain⟨u,Y⟩:=P.pre;exact⟨_,by rw[Y,e,aA]⟩
  have hn:=G.len;have s:Ext α H α1 H3:=⟨⟨D.pre,i.tup,i.frz⟩,D.new,i.keep,i.has⟩
  have p:Wd g α1 (S3.take S1.length) H3:=by
   refine⟨by rw[lT,hn,min_eq_left E.1],G.nd,λl a o A y=>?_⟩;have j:l<S1.length:=by rw[<-hn];exact(gS.mp A).1
   rw[ı j]at y;have q:=n.obj l a o (by rw[B,â (by rw[hn];exact j)];exact A) y;rw[B]at q;refine q.back ?_;rcases E.2 l j with e|⟨o',e,lo'⟩
   .rw[e]at y;exact(G.obj l a o A y).lo
   .rw[y]at e;cases e;rw[hn];exact lo'
  have k: ∀d,lo S1.length d->Den g.K α3 H3 d v->DenE g.K H α1 H3 _ v:=λd Z q=>.val ((B▸q:Den g.K _ H3 d v).back (by rw[hn];exact Z))
  cases r with
  |new I=>
   dsimp only;split
   .rename_i j;obtain⟨⟨b,vs,rfl,A,y,h3⟩,W⟩:=c;exact XV _ _ (α1) rfl s p (Ym b vs rfl A (λz=>y (by rw[B];exact ă _ z)) ((B▸h3:DenL g.K _ H3 I vs).back (by rw[hn];exact j))) W
   .exact(YR _ _ (α3) ⟨rfl,i,n,c⟩)
  |val mv=>
   have w:Den g.K α3 H3 mv v:=c.1
   cases mv with
   |loc l=>
    dsimp only;split
    .rename_i j;exact YR _ _ (α1) ⟨rfl,s,p,k _ (by unfold lo;exact j) w⟩
    .rename_i j;refine(bE w).a λa V N=>?_;subst V;split
     .rename_i I X;split
      .rename_i F;refine(n.obj l a _ N X).a λvs A y=>?_
       have C:a∉α1:=λz=>by
        obtain⟨m,hm⟩:=getElem?_of_mem z;have L:=(gS.mp hm).1;have J:α3[m]? =some a:=by rw[B,â L];exact hm
        obtain⟨u1,T⟩:=gS.mp J;obtain⟨u2,Q⟩:=gS.mp N;have:=(getElem_inj n.nd).mp (T.trans Q.symm)
        lia
       refine XV _ _ (α1) rfl s p (Ym a vs rfl A C ((B▸y:DenL g.K _ H3 I vs).back (by rw[hn];exact F))) (λb e=>?_);cases e;rcases i.new a (è N)with z|z
       .obtain⟨u,S⟩:=D.pre;exact absurd (by rw[S];exact ă _ z) C
       .exact z
      .exact(YR _ _ (α3) ⟨rfl,i,n,c⟩)
     .exact(YR _ _ (α3) ⟨rfl,i,n,c⟩)
   |non=>dsimp only;split;(· rename_i j;exact YR _ _ (α1) ⟨rfl,s,p,k _ j w⟩);(· exact YR _ _ (α3) ⟨rfl,i,n,c⟩)
   |bl b=>dsimp only;split;(· rename_i j;exact YR _ _ (α1) ⟨rfl,s,p,k _ j w⟩);(· exact YR _ _ (α3) ⟨rfl,i,n,c⟩)
   |int b=>dsimp only;split;(· rename_i j;exact YR _ _ (α1) ⟨rfl,s,p,k _ j w⟩);(· exact YR _ _ (α3) ⟨rfl,i,n,c⟩)
   |str b=>dsimp only;split;(· rename_i j;exact YR _ _ (α1) ⟨rfl,s,p,k _ j w⟩);(· exact YR _ _ (α3) ⟨rfl,i,n,c⟩)
   |typ b=>dsimp only;split;(· rename_i j;exact YR _ _ (α1) ⟨rfl,s,p,k _ j w⟩);(· exact YR _ _ (α3) ⟨rfl,i,n,c⟩)
   |obj b b' b''=>dsimp only;split;(· rename_i j;exact YR _ _ (α1) ⟨rfl,s,p,k _ j w⟩);(· exact YR _ _ (α3) ⟨rfl,i,n,c⟩)
   |tup b=>dsimp only;split;(· rename_i j;exact YR _ _ (α1) ⟨rfl,s,p,k _ j w⟩);(· exact YR _ _ (α3) ⟨rfl,i,n,c⟩)
   |scr b=>dsimp only;split;(· rename_i j;exact YR _ _ (α1) ⟨rfl,s,p,k _ j w⟩);(· exact YR _ _ (α3) ⟨rfl,i,n,c⟩)
 .rw[iN E];exact YR _ _ (α3) ⟨rfl,i,n,c⟩
def VW(g:Gm)(n:Nat)(F:↑21):Sp:=λvs H Q _=> ∃α S a,Wd g α S H/\DenL g.K α H a vs/\↑67=n/\Post g W0 α H (F a S) Q
def zE(n:Nat)(F:↑21)(rs:List Er)(S:Sto):R Er:=if ↑58=n then(noX (F (zG rs S).1 (zG rs S).2)).bind λr a=>jL S r a else .no
section
variable{X:Cx}{pos:Pos}
def LX(d:Ext α H α1 H1)(b:Wd X.g α1 S1 H1)(i:ArgsE X.K H α1 H1 rs vs)(q:Post X.g W α H (zE n F rs S1) Q):
  VW X.g n F vs H1 Q E0:=by
 unfold zE at q;split at q
 .rename_i e;refine(sH b d i).elim λa E=>E.h λm B p y=>?_;refine YR a _ _ ⟨p,y,by rw[DW];exact e,?_⟩
  cases z:F (zG rs S1).1 (zG rs S1).2 with
  |ok r S3=>
   rw[z]at q;intro v j w C o s;refine(Oo d b B.pre m C o s).g λE D α' G=>G.h λu h k A=>?_;have q:Post X.g W α H (jL S1 r S3) Q:=q;rw[u]at q;exact q v α' w h k A
  |exc c fs S3=>rw[z]at q;exact q.elim
  |no=>rw[z]at q;exact q.elim
 .exact q.elim
end
noncomputable def zM(N:C0)(ds:X0):Rho:=ds.map some++List.replicate (N.length - ↑12) none
noncomputable def zT:R Fl->R Er
 |.ok (.next _) S=>.ok (.val .non) S
 |.ok (.ret r) S=>.ok r S
 |.exc c fs S=>.exc c fs S
 |_=>.no
section
variable{K:U0}
def okM{st:Stmt}(Fb)(F:Fun K x qual st f fd)(y:FnScope N ps (zP st))
  (hbody: ∀ m  A  j  s  H  E ,Room k (A.deeper (envOfC qual (zP st) ↑0 f m))->
   DX (RU GP P w K mg base N qual (zP st) f m A j s H E).nox W0 (bD st) Fb):
  FnOk P w K mg base GP (k+1) f fd ps (VW ⟨K,mg,P,w⟩ ps.length λds S=>zT (Fb (zM N ds) S)):=by
 refine F.ok y (λvs H Q E h=>?_) (λm A j s H vs Q E B h=>?_)
 .refine h.g λα S ds g=>g.h λ_ l o _=>?_;rw[l.length,o]
 .refine V0 λO=>?_;refine h.g λα S ds M=>M.h λC l o q=>?_;refine(hbody m A j s H E B).a λt G I=>?_;refine O ?_;refine Z3 t G (I α _ S _ H _ C ((show Slots K α H (zM N ds) (start N vs) by
   have a:=l.length;refine⟨?_,λi d e=>?_⟩
   .unfold start zM;rw[lA,lA,lM,lM,đ,đ,a]
   .unfold zM at e;by_cases hi:i<↑12
    .rw[â (by simpa using hi),ó]at e
     cases z:ds[i]? with
     |none=>rw[z]at e;cases e
     |some p=>
      rw[z]at e;refine(l.at z).a λv u D=>?_;have J:=ä (ä e);subst J;refine Z3 v ?_ D;unfold start;rw[â (by rw[lM,a];exact hi),ó,u];rfl
    .rw[æ (by simpa using hi),List.getElem?_replicate]at e;split at e<;>cases e)) ?_);dsimp only at q
  cases z:Fb _ S with
  |ok fl S'=>
   rw[z]at q
   cases fl with
   |next ρ=>exact λσ α' H' b n L=>q .non α' H' b n (DenE.val uF)
   |ret r=>exact λv α' H' b n p=>q v α' H' b n p
   |brk ρ=>exact q.elim
   |cont ρ=>exact q.elim
  |exc c fs S'=>rw[z]at q;exact λα' H' b n=>q α' H' b n
  |no=>rw[z]at q;exact q
end
inductive Vw where
 |fl (v:V)|tp (ds:X0)|ls (ds:X0)
noncomputable def jO(S:Sto):Er->Option (List MV)
 |.new ds=>some ds
 |.val (.scr ds)=>some ds
 |.val (.loc l)=>match S[l]? with
  |some (.lst ds)=>some ds
  |_=>none
 |_=>none
def OQ(S:Sto):Er->Option Vw
 |.val .non=>some (.fl .non)
 |.val (.bl b)=>some (.fl (.bl b))
 |.val (.int i)=>some (.fl (.int i))
 |.val (.str x)=>some (.fl (.str (bC x)))
 |.val (.tup ds)=>some (.tp ds)
 |.val (.typ _)=>none
 |.val (.obj _ _ _)=>none
 |r=>(jO S r).map .ls
noncomputable def GI(e:MV->MV->Option Bool):List MV->List MV->Option (List Bool)
 |d::ds,f::fs=>(e d f).bind λk=>(GI e ds fs).map (k::·)
 |_,_=>some []
def Xz(e:MV->MV->Option Bool):Vw->Vw->Option Bool
 |.fl x,.fl y=>some (Nf x y)
 |.tp ds,.tp es=>(GI e ds es).map λbs=>bs.all id&&ds.length==es.length
 |.ls ds,.ls es=>if ds.length=es.length then(GI e ds es).map λbs=>bs.all id else some false
 |_,_=>some false
theorem WQ(e)(ds es):Xz e (.tp ds) (.tp es)=(GI e ds es).map λbs=>bs.all id&&↑12==es.length:=rfl
theorem WR(e)(ds es):Xz e (.ls ds) (.ls es)=if ↑12=es.length then(GI e ds es).map λbs=>bs.all id else some false:=rfl
noncomputable def eqv(S:Sto):Nat->MV->MV->Option Bool
 |0,_,_=>none
 |n+1,a,b=>(OQ S (.val a)).bind λx=>(OQ S (.val b)).bind λy=>Xz (eqv S n) x y
def GK(S:Sto)(n:Nat)(a b:Er):Option Bool:=(OQ S a).bind λx=>(OQ S b).bind λy=>Xz (eqv S n) x y
section
variable{X:Cx}{α:B9}{S:Sto}{H:Hp}
def sM{K:U0}(j:g.K=K)(k:Wd g α S H)(e:jO S r=some ds)(d:DenX K α H r x): ∃a vs,x=.ref a/\SqL K H a vs/\DenL K α H ds vs:=by
 subst j;unfold jO at e;split at e
 .cases e;refine d.k λb vs m h _ l=>?_;subst m;exact Z0 b vs rfl (.of h) l
 .cases e;refine(HU d).c λa vs o s l=>?_;subst o;exact Z0 a vs rfl s.l l
 .rename_i n;refine(iA d).a λa p h=>?_;subst p;split at e
  .rename_i es i;cases e;refine(k.obj n a _ h i).a λvs c l=>?_;exact Z0 a vs rfl (.of c) l
  .cases e
 .cases e
def rP(e:OQ S r=some (.fl y))(d:DenX X.K α H r x):x=y/\oY y=true:=by
 unfold OQ at e;split at e
 .cases e;exact⟨vZ d,rfl⟩
 .cases e;exact⟨sG d,rfl⟩
 .cases e;exact⟨yM d,rfl⟩
 .cases e;exact⟨jM d,rfl⟩
 .cases e
 .cases e
 .cases e
 .cases z:jO S r<;>rw[z]at e<;>cases e
def rQ(e:OQ S r=some (.tp ds))(d:DenX X.K α H r x): ∃a vs,x=.ref a/\SqT X.K H a vs/\DenL X.K α H ds vs:=by
 unfold OQ at e;split at e
 .cases e
 .cases e
 .cases e
 .cases e
 .cases e;exact bF d
 .cases e
 .cases e
 .cases z:jO S r<;>rw[z]at e<;>cases e
def rR(b:↑27)(e:OQ S r=some (.ls ds))(d:DenX X.K α H r x): ∃a vs,x=.ref a/\SqL X.K H a vs/\DenL X.K α H ds vs:=by
 unfold OQ at e;split at e
 .cases e
 .cases e
 .cases e
 .cases e
 .cases e
 .cases e
 .cases e
 .cases z:jO S r with
  |none=>rw[z]at e;cases e
  |some es=>rw[z]at e;cases e;exact sM rfl b z d
theorem uH: ∀{ds es}{bs},GI e ds es=some bs->bs.length=min ↑12 es.length
 |[],_,_,h=>by simp[GI]at h;subst h;simp
 |_::_,[],_,h=>by simp[GI]at h;subst h;simp
 |d::ds,f::fs,bs,h=>by
  unfold GI at h
  cases z:e d f with
  |none=>rw[z]at h;cases h
  |some k=>
   rw[z]at h
   cases j:GI e ds fs with
   |none=>simp[j]at h
   |some cs=>
    simp[j]at h;subst h;simp[uH j]
theorem OR: ∀{ds es}{bs}{j}{d f},GI e ds es=some bs->ds[j]? =some d->es[j]? =some f->e d f=some (bs.getD j true)
 |[],_,_,_,_,_,h,h1,_=>by simp at h1
 |_::_,[],_,_,_,_,h,_,h2=>by simp at h2
 |d::ds,f::fs,bs,j,d',f',h,h1,h2=>by
  unfold GI at h
  cases z:e d f with
  |none=>rw[z]at h;cases h
  |some k=>
   rw[z]at h
   cases m:GI e ds fs with
   |none=>simp[m]at h
   |some cs=>
    simp[m]at h;subst h
    cases j with
    |zero=>simp at h1 h2;subst h1 h2;simpa using z
    |succ j=>simpa using OR m (by simpa using h1) (by simpa using h2)
def range_all{bs:O0}(h:bs.length=n):(List.range n).all (λj=>bs.getD j true)=bs.all id:=by
 subst h;rw[Bool.eq_iff_iff,ÿ,ÿ];constructor
 .intro h x b;obtain⟨i,hi,rfl⟩:=List.getElem_of_mem b;have:=h i (ő.mpr hi);simpa [ī,hi]using this
 .intro h i hi;have a:=ő.mp hi;have:=h bs[i] (ŀ a);simpa [ī,a]using this
variable{pins:L1}{σ:St}{s:œ}
def BD(I:↑2)(h:SqL X.K H a xs)(h':SqT X.K H a ys):False:=by refine(I.list h).b λ_ _ i _=>?_;refine(I.tuple h').b λ_ _ pt _=>?_;refine i.k λo n e c _ _=>?_;refine pt.b λj b d _=>?_;rw[e]at b;cases b;rw[c]at d;exact absurd d (by simp)
theorem Ha(I:↑2)(r:↑27)(O: ∀d f v k,Den X.K α H d v->Den X.K α H f v->e d f=some k->k=true)
  (ha:OQ S a=some p) (hb:OQ S b=some q) (da:DenX X.K α H a x) (db:DenX X.K α H b x) (h:Xz e p q=some k):k=true:=by
 have E: ∀{ds es:X0}{vs:List V}{bs:O0},DenL X.K α H ds vs->DenL X.K α H es vs->GI e ds es=some bs->bs.all id=true:=by
  intro ds es vs bs n c z;rw[ÿ];intro k M;obtain⟨i,hi,rfl⟩:=List.getElem_of_mem M;have P:=uH z;have C:i<ds.length:=by lia
  have F:i<es.length:=by lia
  refine(n.at (gE C)).a λv L N=>?_;refine(c.at (gE F)).a λQ D G=>?_;rw[L]at D;cases D;have:=O _ _ _ _ N G (OR z (gE C) (gE F));simpa [ī,hi]using this
 cases p with
 |fl y=>
  obtain⟨rfl,w⟩:=rP ha da
  cases q with
  |fl z=>obtain⟨rfl,u⟩:=rP hb db;cases h;exact Gp w
  |tp ds=>obtain⟨a,vs,rfl,_⟩:=rQ hb db;exact absurd w xF0
  |ls ds=>obtain⟨a,vs,rfl,_⟩:=rR r hb db;exact absurd w xF0
 |tp ds=>
  obtain⟨J,vs,rfl,o,n⟩:=rQ ha da
  cases q with
  |fl z=>obtain⟨rfl,u⟩:=rP hb db;exact absurd u xF0
  |tp es=>
   obtain⟨B,A,j,m,c⟩:=rQ hb db;cases j;cases I.tuple_inj o m;rw[WQ]at h
   cases z:GI e ds es with
   |none=>rw[z]at h;cases h
   |some bs=>
    rw[z]at h;cases h;show(bs.all id&&↑12==es.length)=true;rw[E n c z, <-n.length, <-c.length];simp
  |ls es=>obtain⟨B,A,j,m,c⟩:=rR r hb db;cases j;exact(BD I m o).elim
 |ls ds=>
  obtain⟨J,vs,rfl,o,n⟩:=rR r ha da
  cases q with
  |fl z=>obtain⟨rfl,u⟩:=rP hb db;exact absurd u xF0
  |tp es=>obtain⟨B,A,j,m,c⟩:=rQ hb db;cases j;exact(BD I o m).elim
  |ls es=>
   obtain⟨B,A,j,m,c⟩:=rR r hb db;cases j;cases I.list_inj o m;rw[WR]at h;rw[iP (by rw[<-n.length, <-c.length])]at h
   cases z:GI e ds es with
   |none=>rw[z]at h;cases h
   |some bs=>rw[z]at h;cases h;exact E n c z
theorem HX(I:↑2)(a:↑27): ∀ n  d f  v  k ,Den X.K α H d v->Den X.K α H f v->eqv S n d f=some k->k=true
 |0,_,_,_,_,_,_,h=>by cases h
 |n+1,d,f,v,k,h1,h2,h=>by
  unfold eqv at h
  cases j:OQ S _ with
  |none=>rw[j]at h;cases h
  |some p=>
   cases m:OQ S _ with
   |none=>rw[j,m]at h;cases h
   |some q=>
    rw[j,m]at h;exact Ha I a (HX I a n) j m h1 h2 h
def BE(C: ∀d f x y u v k,Den X.K α H d x->Den X.K α H f y->RelV x u->RelV y v->e d f=some k->SeqAt.EqAt A s u v k)
      (l1:DenL X.K α H ds vs) (l2:DenL X.K α H es us) (r1:Vals vs its) (r2:Vals us its2) (z:GI e ds es=some bs):
  ∀j  m  (q:j<its2.toArray.size),SeqAt.EqAt A s its.toArray[j] its2.toArray[j] (bs.getD j true):=by
 intro j m q;rw[20];have a:j<vs.length:=by rw[r1.length];simpa using m
 have b:j<us.length:=by rw[r2.length];simpa using q
 refine(l1.get (gE a)).a λd c w=>?_;refine(l2.get (gE b)).a λf B D=>?_;refine(r1.get (gE a)).a λu n p=>?_;refine(r2.get (gE b)).a λv h i=>?_;have o:its.toArray[j]=u:=by have:its[j]? =some (its[j]'(by simpa using m)):=gE _;rw[n]at this;simpa using(ä this).symm
 have r:its2.toArray[j]=v:=by have:its2[j]? =some (its2[j]'(by simpa using q)):=gE _;rw[h]at this;simpa using(ä this).symm
 refine g ?_;rw[o,r];exact C d f _ _ u v _ w D p i (OR z c B)
theorem DY(I:↑2)(J:↑27): ∀ n  A  d f  x y  u v  k ,A.units+n<cLine->Den X.K α H d x->Den X.K α H f y->RelV x u->RelV y v->eqv S n d f=some k->SeqAt.EqAt A s u v k
 |0,_,_,_,_,_,_,_,_,_,_,_,_,_,h=>by cases h
 |n+1,A,d,f,x,y,u,v,k,hu,h1,h2,rx,ry,h=>by
  have j:A.units<cLine:=by lia
  have o:=h;unfold eqv at h
  cases M:OQ S _ with
  |none=>rw[M]at h;cases h
  |some p=>
   cases w:OQ S _ with
   |none=>rw[M,w]at h;cases h
   |some q=>
    rw[M,w]at h;have h:Xz _ p q=some k:=h;have W:=λd f x y u v k a b c Y e=>DY I J n A.in1 d f x y u v k #[0] a b c Y e
    cases p with
    |fl x'=>
     obtain⟨rfl,T⟩:=rP M h1
     cases q with
     |fl y'=>obtain⟨rfl,O⟩:=rP w h2;cases h;exact Wj rx ry T O
     |tp es=>
      obtain⟨b,P,rfl,r,B⟩:=rQ w h2;cases ry;cases h;obtain⟨C,_,pt,_⟩:=I.tuple r;exact(FE rx T pt j).2.1
     |ls es=>
      obtain⟨b,P,rfl,r,B⟩:=rR J w h2;cases ry;cases h;obtain⟨C,_,E,_⟩:=I.list r;exact(LT rx T E.isList j).2.1
    |tp ds=>
     obtain⟨a,vs,rfl,Q,F⟩:=rQ M h1;cases rx;obtain⟨C,D,pt,_⟩:=I.tuple Q
     cases q with
     |fl y'=>obtain⟨rfl,O⟩:=rP w h2;cases h;exact(FE ry O pt j).1
     |tp es=>
      obtain⟨b,P,rfl,r,B⟩:=rQ w h2;cases ry;by_cases m:a=b
      .subst m;rw[HX I J _ d f _ k h1 h2 o];exact SeqAt.EqAt.same _
      .refine(I.tuple r).b λi L U _=>?_;rw[WQ]at h
       cases z:GI _ ds es with
       |none=>rw[z]at h;cases h
       |some bs=>
        rw[z]at h;cases h;have:=SeqAt.RcAt.tuples pt U j (BE W F B D L z);have G:=uH z;rw[range_all (by rw[G];simp[<-D.length, <-L.length,F.length,(↑5)])]at this;have Z:(C.toArray.size==i.toArray.size)=(↑12==es.length):=by simp[<-D.length, <-L.length,F.length,(↑5)]
        rw[Z]at this;exact SeqAt.EqAt.of_refs m this
     |ls es=>
      obtain⟨b,P,rfl,r,B⟩:=rR J w h2;cases ry;cases h;refine(I.list r).b λi _ E _=>?_;exact SeqAt.EqAt.tuple_list pt E.isList j
    |ls ds=>
     obtain⟨a,vs,rfl,Q,F⟩:=rR J M h1;cases rx;obtain⟨C,D,E,_⟩:=I.list Q
     cases q with
     |fl y'=>obtain⟨rfl,O⟩:=rP w h2;cases h;exact(LT ry O E.isList j).1
     |tp es=>
      obtain⟨b,P,rfl,r,B⟩:=rQ w h2;cases ry;cases h;refine(I.tuple r).b λi _ pt _=>?_;exact SeqAt.EqAt.list_tuple E.isList pt j
     |ls es=>
      obtain⟨b,P,rfl,r,B⟩:=rR J w h2;cases ry;by_cases m:a=b
      .subst m;rw[HX I J _ d f _ k h1 h2 o];exact SeqAt.EqAt.same _
      .refine(I.list r).b λi L N _=>?_;rw[WR]at h;by_cases G:↑12=es.length
       .rw[iP G]at h
        cases z:GI _ ds es with
        |none=>rw[z]at h;cases h
        |some bs=>
         rw[z]at h;cases h;have:=SeqAt.RcAt.lists E.isList N.isList (by simp[<-D.length, <-L.length,F.length,(↑5),G]) j (BE W F B D L z);rw[range_all (by rw[(uH z)];simp[<-D.length,F.length,G])]at this;exact SeqAt.EqAt.of_refs m this
       .rw[iN G]at h;cases h;exact SeqAt.EqAt.of_refs m (SeqAt.RcAt.lists_lengths E.isList N.isList (by simpa [<-D.length, <-L.length,F.length,(↑5)]using G) j)
theorem Ts{C:Around->œ->Ŕ->Ŕ->Bool->Prop}{tr:Bool->Bool}
  (hff: ∀x y u v,RelV x u->RelV y v->oY x=true->oY y=true->C A s u v (tr (Nf x y)))
  (hfl: ∀x v l B,RelV x v->oY x=true->s.heap.IsList l B->A.units<cLine->C A s v (.ref l) (tr false)/\C A s (.ref l) v (tr false))
  (hft: ∀x v l B,RelV x v->oY x=true->s.heap.IsTuple l B->A.units<cLine->C A s v (.ref l) (tr false)/\C A s (.ref l) v (tr false))
  (hlt: ∀l b B m,s.heap.IsList l B->s.heap.IsTuple b m->A.units<cLine->C A s (.ref l) (.ref b) (tr false)/\C A s (.ref b) (.ref l) (tr false))
  (htt: ∀ l b  B m  e ,s.heap.IsTuple l B->s.heap.IsTuple b m->A.units<cLine->(∀j  Q  (G:j<m.size),SeqAt.EqAt A.in1 s B[j] m[j] (e j))->C A s (.ref l) (.ref b) (tr ((List.range (min B.size m.size)).all e&&B.size==m.size)))
  (hll: ∀ l b  B m  e ,s.heap.IsList l B->s.heap.IsList b m->B.size=m.size->A.units<cLine->(∀j  Q  (G:j<m.size),SeqAt.EqAt A.in1 s B[j] m[j] (e j))->C A s (.ref l) (.ref b) (tr ((List.range B.size).all e)))
  (hln: ∀ l b  B m ,s.heap.IsList l B->s.heap.IsList b m->(B.size !=m.size)=true->A.units<cLine->C A s (.ref l) (.ref b) (tr false))
  (I:↑2) (wd:↑27) (n)     (hu:A.units+(n+1)<cLine) (Q:DenX X.K α H a x) (G:DenX X.K α H b y) (rx:RelV x u) (ry:RelV y v) (h:GK S n a b=some k):C A s u v (tr k):=by
 have i:A.units<cLine:=by lia
 unfold GK at h
 cases O:OQ S a with
 |none=>rw[O]at h;cases h
 |some p=>
  cases w:OQ S b with
  |none=>rw[O,w]at h;cases h
  |some q=>
   rw[O,w]at h;have h:Xz _ p q=some k:=h;have he:=λd f x y u v k a b c d' e=>DY I wd n A.in1 d f x y u v k #[0] a b c d' e
   cases p with
   |fl x'=>
    obtain⟨rfl,Y⟩:=rP O Q
    cases q with
    |fl y'=>obtain⟨rfl,T⟩:=rP w G;cases h;exact hff _ _ _ _ rx ry Y T
    |tp es=>
     obtain⟨b,U,rfl,r,D⟩:=rQ w G;cases ry;cases h;refine(I.tuple r).b λE _ pt _=>?_;exact(hft _ _ _ _ rx Y pt i).1
    |ls es=>
     obtain⟨b,U,rfl,r,D⟩:=rR wd w G;cases ry;cases h;refine(I.list r).b λE _ J _=>?_;exact(hfl _ _ _ _ rx Y J.isList i).1
   |tp ds=>
    obtain⟨a,vs,rfl,W,L⟩:=rQ O Q;cases rx;obtain⟨E,F,pt,_⟩:=I.tuple W
    cases q with
    |fl y'=>obtain⟨rfl,T⟩:=rP w G;cases h;exact(hft _ _ _ _ ry T pt i).2
    |tp es=>
     obtain⟨b,U,rfl,r,D⟩:=rQ w G;cases ry;refine(I.tuple r).b λo N Z _=>?_;rw[WQ]at h
     cases z:GI _ ds es with
     |none=>rw[z]at h;cases h
     |some bs=>
      rw[z]at h;cases h;have:=htt _ _ _ _ _ pt Z i (BE he L D F N z);have M:=uH z;rw[range_all (by rw[M];simp[<-F.length, <-N.length,L.length,D.length])]at this;have e3:(E.toArray.size==o.toArray.size)=(↑12==es.length):=by simp[<-F.length, <-N.length,L.length,D.length]
      rw[e3]at this;exact this
    |ls es=>
     obtain⟨b,U,rfl,r,D⟩:=rR wd w G;cases ry;cases h;refine(I.list r).b λo _ J _=>?_;exact(hlt _ _ _ _ J.isList pt i).2
   |ls ds=>
    obtain⟨a,vs,rfl,W,L⟩:=rR wd O Q;cases rx;obtain⟨E,F,J,_⟩:=I.list W
    cases q with
    |fl y'=>obtain⟨rfl,T⟩:=rP w G;cases h;exact(hfl _ _ _ _ ry T J.isList i).2
    |tp es=>
     obtain⟨b,U,rfl,r,D⟩:=rQ w G;cases ry;cases h;refine(I.tuple r).b λo _ pt _=>?_;exact(hlt _ _ _ _ J.isList pt i).1
    |ls es=>
     obtain⟨b,U,rfl,r,D⟩:=rR wd w G;cases ry;refine(I.list r).b λo N P _=>?_;rw[WR]at h;by_cases M:↑12=es.length
     .rw[iP M]at h
      cases z:GI _ ds es with
      |none=>rw[z]at h;cases h
      |some bs=>
       rw[z]at h;cases h;have:=hll _ _ _ _ _ J.isList P.isList (by simp[<-F.length, <-N.length,L.length,D.length,M]) i (BE he L D F N z);rw[range_all (by rw[(uH z)];simp[<-F.length,L.length,M])]at this;exact this
     .rw[iN M]at h;cases h;exact hln _ _ _ _ J.isList P.isList (by simpa [<-F.length, <-N.length,L.length,D.length]using M) i
def Ya(I:↑2)(q:↑27)(n)(p:A.units+(n+1)<cLine)(i:DenX X.K α H a x)(j:DenX X.K α H b y)(m:RelV x u)(o:RelV y v)(h:GK S n a b=some k):SeqAt.RcAt A s u v k:=
 Ts (tr:=id) (λ_ _ _ _ a b c d=>(Gn a b c d).1) (λ_ _ _ _ a b c d=>⟨(LT a b c d).2.2.2.1,(LT a b c d).2.2.1⟩) (λ_ _ _ _ a b c d=>⟨(FE a b c d).2.2.2.1,(FE a b c d).2.2.1⟩)
  (λ_ _ _ _ a b c=>⟨SeqAt.RcAt.list_tuple a b c,SeqAt.RcAt.tuple_list b a c⟩) (λ_ _ _ _ _ a b c d=>SeqAt.RcAt.tuples a b c d) (λ_ _ _ _ _ a b c d e=>SeqAt.RcAt.lists a b c d e) (λ_ _ _ _ a b c d=>SeqAt.RcAt.lists_lengths a b c d)
  I q n p i j m o h
def Yb(I:↑2)(q:↑27)(n)(p:A.units+(n+1)<cLine)(i:DenX X.K α H a x)(j:DenX X.K α H b y)(m:RelV x u)(o:RelV y v)(h:GK S n a b=some k):SeqAt.RcNeAt A s u v (!k):=
 Ts (λ_ _ _ _ a b c d=>(Gn a b c d).2) (λ_ _ _ _ a b c d=>⟨(LT a b c d).2.2.2.2.2,(LT a b c d).2.2.2.2.1⟩) (λ_ _ _ _ a b c d=>⟨(FE a b c d).2.2.2.2.2,(FE a b c d).2.2.2.2.1⟩)
  (λ_ _ _ _ a b c=>⟨SeqAt.RcNeAt.list_tuple a b c,SeqAt.RcNeAt.tuple_list b a c⟩) (λ_ _ _ _ _ a b c d=>SeqAt.RcNeAt.tuples a b c d) (λ_ _ _ _ _ a b c d e=>SeqAt.RcNeAt.lists a b c d e) (λ_ _ _ _ a b c d=>SeqAt.RcNeAt.lists_lengths a b c d)
  I q n p i j m o h
theorem ZG{α β:Type}: ∀{a c:List α}{b d:List β},↑67=b.length->c.length=d.length->a.zip b=c.zip d->a=c/\b=d
 |[],[],[],[],_,_,_=>⟨rfl,rfl⟩
 |[],_::_,[],_::_,_,_,e=>by simp at e
 |_::_,[],_::_,[],_,_,e=>by simp at e
 |x::a,y::c,z::b,w::d,h1,h2,e=>by simp only[ō,List.cons.injEq,Prod.mk.injEq]at e;obtain⟨rfl,rfl⟩:=ZG (by simpa using h1) (by simpa using h2) e.2;exact⟨by rw[e.1.1],by rw[e.1.2]⟩
mutual
theorem Den.inj(I:↑2)(y:↑27): ∀{d f:MV}{v:V},Den X.K α H d v->Den X.K α H f v->d=f
 |.non,f,v,h,h'=>by cases aL h;cases f<;>first |rfl|(have:=pD h';cases this;done)|(have:=xR h';cases this;done)|(have:=xE h';cases this;done)|(have:=cR h';cases this;done)|(obtain⟨_,_,e,_⟩:=yQ h';cases e;done)|(obtain⟨_,_,e,_⟩:=cS h';cases e;done)|(obtain⟨_,e,_⟩:=bE h';cases e;done)|(obtain⟨_,_,_,_,_,e,_⟩:=cQ h';cases e;done)
 |.bl b,f,v,h,h'=>by cases pD h;cases f<;>first |(have:=pD h';cases this;rfl;done)|(have:=aL h';cases this;done)|(have:=xR h';cases this;done)|(have:=xE h';cases this;done)|(have:=cR h';cases this;done)|(obtain⟨_,_,e,_⟩:=yQ h';cases e;done)|(obtain⟨_,_,e,_⟩:=cS h';cases e;done)|(obtain⟨_,e,_⟩:=bE h';cases e;done)|(obtain⟨_,_,_,_,_,e,_⟩:=cQ h';cases e;done)
 |.int b,f,v,h,h'=>by cases xR h;cases f<;>first |(have:=xR h';cases this;rfl;done)|(have:=aL h';cases this;done)|(have:=pD h';cases this;done)|(have:=xE h';cases this;done)|(have:=cR h';cases this;done)|(obtain⟨_,_,e,_⟩:=yQ h';cases e;done)|(obtain⟨_,_,e,_⟩:=cS h';cases e;done)|(obtain⟨_,e,_⟩:=bE h';cases e;done)|(obtain⟨_,_,_,_,_,e,_⟩:=cQ h';cases e;done)
 |.str b,f,v,h,h'=>by cases xE h;cases f<;>first |(have:=xE h';rw[uE (V.str.inj this)];done)|(have:=aL h';cases this;done)|(have:=pD h';cases this;done)|(have:=xR h';cases this;done)|(have:=cR h';cases this;done)|(obtain⟨_,_,e,_⟩:=yQ h';cases e;done)|(obtain⟨_,_,e,_⟩:=cS h';cases e;done)|(obtain⟨_,e,_⟩:=bE h';cases e;done)|(obtain⟨_,_,_,_,_,e,_⟩:=cQ h';cases e;done)
 |.typ b,f,v,h,h'=>by cases cR h;cases f<;>first |(have:=cR h';cases this;rfl;done)|(have:=aL h';cases this;done)|(have:=pD h';cases this;done)|(have:=xR h';cases this;done)|(have:=xE h';cases this;done)|(obtain⟨_,_,e,_⟩:=yQ h';cases e;done)|(obtain⟨_,_,e,_⟩:=cS h';cases e;done)|(obtain⟨_,e,_⟩:=bE h';cases e;done)|(obtain⟨_,_,_,_,_,e,_⟩:=cQ h';cases e;done)
 |.tup ds,f,v,h,h'=>by
  obtain⟨a,vs,rfl,j,G⟩:=yQ h
  cases f with
  |tup es=>
   obtain⟨q,u,i,A,r⟩:=yQ h';cases i;cases I.tuple_inj j A;rw[DenL.inj I y G r]
  |scr es=>obtain⟨q,u,i,A,r⟩:=cS h';cases i;exact(BD I A.l j).elim
  |loc l=>
   obtain⟨q,i,k⟩:=bE h';cases i;obtain⟨M,p,E,w⟩:=y.mem (è k);rcases j with(j|⟨o,j⟩)|⟨o,its,n,j,_⟩
   .rw[p]at j;exact absurd (ä j) (E _)
   .rw[p]at j;exact(let ⟨_,z⟩:=w _ _ (ä j);by cases z)
   .have:=(I.bs a o (I.mod.kin a o j)).2;rw[p]at this;cases this
  |non=>cases aL h'
  |bl b=>cases pD h'
  |int b=>cases xR h'
  |str b=>cases xE h'
  |typ b=>cases cR h'
  |obj c ns es=>
   obtain⟨q,C,L,u,N,i,k,_⟩:=cQ h';cases i;rcases j with(j|⟨o,j⟩)|⟨o,its,n,j,_⟩
   .rw[k]at j;cases j
   .rw[k]at j;cases j
   .have:=(I.bs a o (I.mod.kin a o j)).2;rw[k]at this;cases this
 |.scr ds,f,v,h,h'=>by
  obtain⟨a,vs,rfl,j,G⟩:=cS h
  cases f with
  |scr es=>
   obtain⟨q,u,i,A,r⟩:=cS h';cases i;cases I.list_inj j.l A.l;rw[DenL.inj I y G r]
  |tup es=>obtain⟨q,u,i,A,r⟩:=yQ h';cases i;exact(BD I j.l A).elim
  |loc l=>
   obtain⟨q,i,k⟩:=bE h';cases i;obtain⟨M,p,E,w⟩:=y.mem (è k);rcases j with⟨o,j⟩|⟨o,its,n,j,_⟩
   .rw[p]at j;exact(let ⟨_,z⟩:=w _ _ (ä j);by cases z)
   .have:=(I.bs a o (I.mod.kin a o j)).2;rw[p]at this;cases this
  |non=>cases aL h'
  |bl b=>cases pD h'
  |int b=>cases xR h'
  |str b=>cases xE h'
  |typ b=>cases cR h'
  |obj c ns es=>
   obtain⟨q,C,L,u,N,i,k,_⟩:=cQ h';cases i;rcases j with⟨o,j⟩|⟨o,its,n,j,_⟩
   .rw[k]at j;cases j
   .have:=(I.bs a o (I.mod.kin a o j)).2;rw[k]at this;cases this
 |.loc l,f,v,h,h'=>by
  obtain⟨a,rfl,J⟩:=bE h;obtain⟨M,p,E,w⟩:=y.mem (è J)
  cases f with
  |loc m=>
   obtain⟨q,i,k⟩:=bE h';cases i;by_cases F:l=m
   .rw[F]
   .exact absurd rfl (y.ne J k F)
  |tup es=>
   obtain⟨q,u,i,j,r⟩:=yQ h';cases i;rcases j with(j|⟨o,j⟩)|⟨o,its,n,j,_⟩
   .rw[p]at j;exact absurd (ä j) (E _)
   .rw[p]at j;exact(let ⟨_,z⟩:=w _ _ (ä j);by cases z)
   .have:=(I.bs a o (I.mod.kin a o j)).2;rw[p]at this;cases this
  |scr es=>
   obtain⟨q,u,i,j,r⟩:=cS h';cases i;rcases j with⟨o,j⟩|⟨o,its,n,j,_⟩
   .rw[p]at j;exact(let ⟨_,z⟩:=w _ _ (ä j);by cases z)
   .have:=(I.bs a o (I.mod.kin a o j)).2;rw[p]at this;cases this
  |non=>cases aL h'
  |bl b=>cases pD h'
  |int b=>cases xR h'
  |str b=>cases xE h'
  |typ b=>cases cR h'
  |obj c ns es=>
   obtain⟨q,C,L,u,N,i,k,_⟩:=cQ h';cases i;rw[p]at k;exact(let ⟨_,z⟩:=w _ _ (ä k);by cases z)
 |.obj c ns ds,f,v,h,h'=>by
  obtain⟨a,C,L,u,N,rfl,k,hn,U,P,G⟩:=cQ h
  cases f with
  |obj c' ns' es=>
   obtain⟨q,C2,T,Q,Y,i,B,W,D,O,r⟩:=cQ h';cases i;rw[k]at B;injection B with B
   injection B with _ B
   injection B with e1 i e3
   subst e1;rw[U]at D;cases D;obtain⟨rfl,rfl⟩:=ZG P O e3;rw[DenL.inj I y G r]
  |tup es=>
   obtain⟨q,u,i,j,r⟩:=yQ h';cases i;rcases j with(j|⟨o,j⟩)|⟨o,its,n,j,_⟩
   .rw[k]at j;cases j
   .rw[k]at j;cases j
   .have:=(I.bs a o (I.mod.kin a o j)).2;rw[k]at this;cases this
  |scr es=>
   obtain⟨q,u,i,j,r⟩:=cS h';cases i;rcases j with⟨o,j⟩|⟨o,its,n,j,_⟩
   .rw[k]at j;cases j
   .have:=(I.bs a o (I.mod.kin a o j)).2;rw[k]at this;cases this
  |loc l=>
   obtain⟨q,i,J⟩:=bE h';cases i;obtain⟨M,p,E,w⟩:=y.mem (è J);rw[p]at k;exact(let ⟨_,z⟩:=w _ _ (ä k);by cases z)
  |non=>cases aL h'
  |bl b=>cases pD h'
  |int b=>cases xR h'
  |str b=>cases xE h'
  |typ b=>cases cR h'
theorem DenL.inj(I:↑2)(b:↑27): ∀{ds fs:X0}{vs:List V},DenL X.K α H ds vs->DenL X.K α H fs vs->ds=fs
 |[],fs,vs,h,h'=>by
  cases h.isnil
  cases fs with
  |nil=>rfl
  |cons f fs=>obtain⟨_,_,e,_⟩:=h'.uncons;cases e
 |d::ds,fs,vs,h,h'=>by
  obtain⟨v,r,rfl,a,l⟩:=h.uncons
  cases fs with
  |nil=>cases h'.isnil
  |cons f fs=>
   obtain⟨k,j,e,i,c⟩:=h'.uncons;cases e;rw[Den.inj I b a i,DenL.inj I b l c]
end
end
inductive LexR(A:Around)(s:œ):List Ŕ->List Ŕ->Bool->Prop
 |nn:LexR A s [] [] false
 |nc (x xs):LexR A s [] (x::xs) true
 |cn (y ys):LexR A s (y::ys) [] false
 |eq {y x ys xs k}:SeqAt.EqAt A s y x true->LexR A s ys xs k->LexR A s (y::ys) (x::xs) k
 |ne {y x ys xs k}:SeqAt.EqAt A s y x false->(∀(prog:ŕ)(w:World)(E Q:VP),Q (.bool k) s->wpAny (model prog w) A (richCompare .Lt y x) Q E s)->LexR A s (y::ys) (x::xs) k
section
open PySem.SeqAt
open PySem.AutoSeq1 (wpAny_loadPart')
open PySem.MeetsSeq PySem.MeetsSeq2 PySem.MeetsSeq3
theorem HY(l b)(its its2)(n n2)(dd dd2)(sl sl2)(k):
  Meets (Builtin.«tuple.__lt__» ⟨[.ref l,.ref b],[]⟩)
   (λA R s=>s.heap.get? l=some {cls:=.type "tuple",dict:=dd,data:=.seq its n,slots:=sl}/\s.heap.get? b=some {cls:=.type "tuple",dict:=dd2,data:=.seq its2 n2,slots:=sl2}/\
    LexR A.in1 s its.toList its2.toList k/\R (.ok (.ret (.bool k))) s):=
 .of_wp λprog w A R s h=>by
  obtain⟨q,g,d,o,p⟩:=s;obtain⟨r,u,j,h⟩:=h;have B:=AutoSeq1.sub_tuple_tuple
  wp_walk using Ā r,Ā u,wpAny_forIn_list _ (λrest b m=>b.1=none/\m=⟨q,g,d,o,p⟩/\ ∃(vs ws:A0),rest=vs.zip ws/\
   LexR A.in1 ⟨q,g,d,o,p⟩ vs ws k/\↑10+its2.size=ws.length+its.size) _
  case turn=>
   rintro⟨y,x⟩ rest b m ⟨e,rfl,vs,ws,c,i,a⟩
   cases i with
   |nn=>rw[zip_nil_left]at c;cases c
   |nc x xs=>rw[zip_nil_left]at c;cases c
   |cn y ys=>rw[List.zip_nil_right]at c;cases c
   |@eq y' x' ys xs k' he hr=>
    rw[ō]at c;injection c with hyx hrest
    injection hyx with hy j
    subst hy j;simp only[lC]at a;refine wB (he prog w _ _ ?_)
    wp_walk
    exact⟨rfl,rfl,_,_,hrest,hr,by lia⟩
   |@ne y' x' ys xs k' he hr=>
    rw[ō]at c;injection c with hyx hrest
    injection hyx with hy j
    subst hy j;refine wB (he prog w _ _ ?_)
    wp_walk using(hr prog w)
    exact⟨_,rfl,by simpa using h⟩
  case fin=>
   rintro⟨z,v⟩ m ⟨e,rfl,vs,ws,c,i,a⟩;refine V0 λC=>?_;simp only at e;subst e
   have hv:k=decide (its.size<its2.size):=by
    cases i with
    |nn=>simp only[ø]at a;exact(dF0 #[0]).symm
    |nc x xs=>simp only[ø,lC]at a;exact(dT0 #[0]).symm
    |cn y ys=>simp only[ø,lC]at a;exact(dF0 #[0]).symm
    |eq he hr=>rw[ō]at c;cases c
    |ne he hr=>rw[ō]at c;cases c
   rw[hv]at h
   refine C ?_;wp_walk
   exact⟨_,rfl,by simpa [Builtin.Tuple.tupleCompareSizes]using h⟩
  case h=>
   exact⟨rfl,rfl,_,_,rfl,j,by simp;lia⟩
end
def Hb(p:IsTup s.heap l its)(B:IsTup s.heap b its2)(q:LexR A.in1 s its.toList its2.toList k)(u:A.units<cLine)(prog)(w)(E Q)(h:Q (.bool k) s):
  wpAny ↑6 A (richCompare .Lt (.ref l) (.ref b)) Q E s:=by
 rw[20];obtain⟨⟨y,z,m,sl⟩,o,v,n,C⟩:=id p;obtain⟨⟨j,c,_,d⟩,a,e,r,i⟩:=id B;subst v C e i
 refine g ?_;exact richCompare_meets_room ⟨_,o,rfl⟩ ⟨_,a,rfl⟩ PySem.F.slot_tuple_lt PySem.F.entry_tuple_lt (PySem.F.args_tuple_lt_2 _ _) (HY l b its its2 n r z c sl d k)
  ⟨o,a,q,show Value.bool k≠Value.notImplemented/\Q _ s from⟨(λx=>nomatch x),h⟩⟩ u
noncomputable def KM(e l:MV->MV->Option Bool):List MV->List MV->Option Bool
 |[],[]=>some false
 |[],_::_=>some true
 |_::_,[]=>some false
 |d::ds,f::fs=>(e d f).bind λk=>if k=true then KM e l ds fs else l d f
def GQ(S:Sto):Nat->MV->MV->Option Bool
 |0,_,_=>none
 |n+1,.int i,.int j=>some (decide (i<j))
 |n+1,.str x,.str y=>some (decide (x<y))
 |n+1,.tup ds,.tup es=>KM (eqv S n) (GQ S n) ds es
 |_,_,_=>none
section
variable{X:Cx}
theorem ZH(i: ∀d f x y u v k,Den X.K α H d x->Den X.K α H f y->RelV x u->RelV y v->e d f=some k->SeqAt.EqAt A s u v k)
  (hl: ∀d f x y u v k,Den X.K α H d x->Den X.K α H f y->RelV x u->RelV y v->l d f=some k-> ∀ prog  w  E Q ,Q (.bool k) s->wpAny ↑6 A (richCompare .Lt u v) Q E s):
  ∀{ds fs}{vs us}{m j}{k},DenL X.K α H ds vs->DenL X.K α H fs us->Vals vs m->Vals us j->KM e l ds fs=some k->LexR A s m j k
 |[],[],_,_,_,_,k,l1,l2,r1,r2,h=>by cases l1.isnil;cases l2.isnil;cases r1;cases r2;cases h;exact .nn
 |[],f::fs,_,_,_,_,k,l1,l2,r1,r2,h=>by
  cases l1.isnil;obtain⟨v,r,rfl,a,l⟩:=l2.uncons;cases r1
  cases r2 with
  |cons a b=>cases h;exact .nc _ _
 |d::ds,[],_,_,_,_,k,l1,l2,r1,r2,h=>by
  cases l2.isnil;obtain⟨v,r,rfl,a,l⟩:=l1.uncons;cases r2
  cases r1 with
  |cons a b=>cases h;exact .cn _ _
 |d::ds,f::fs,_,_,_,_,k,l1,l2,r1,r2,h=>by
  refine l1.uncons.c λv r g a c=>?_;subst g;refine l2.uncons.c λp q p o n=>?_;subst p
  cases r1 with
  |cons b1 c1=>
   cases r2 with
   |cons b2 c2=>
    unfold KM at h
    cases z:e d f with
    |none=>rw[z]at h;cases h
    |some kk=>
     rw[z]at h;have h:_=some k:=h
     cases kk with
     |true=>
      exact .eq (i d f _ _ _ _ _ a o b1 b2 z) (ZH i hl c n c1 c2 h)
     |false=>
      exact .ne (i d f _ _ _ _ _ a o b1 b2 z) (hl d f _ _ _ _ _ a o b1 b2 h)
theorem OS(I:↑2)(o:↑27): ∀ n  A  d f  x y  u v  k ,A.units+n<cLine->Den X.K α H d x->Den X.K α H f y->RelV x u->RelV y v->GQ S n d f=some k->
  ∀ prog  w  E Q ,Q (.bool k) s->wpAny ↑6 A (richCompare .Lt u v) Q E s
 |0,_,_,_,_,_,_,_,_,_,_,_,_,_,h=>by cases h
 |n+1,A,d,f,x,y,u,v,k,hu,h1,h2,rx,ry,h=>by
  intro prog w E Q j;unfold GQ at h;split at h
  .cases h
  .cases h;cases xR h1;cases xR h2;obtain⟨t,rfl⟩:=rx;obtain⟨q,rfl⟩:=ry;exact(PyProof.Rows.lt_int j:wpAny _ A _ Q E s)
  .cases h;cases xE h1;cases xE h2;obtain⟨t,rfl⟩:=rx;obtain⟨q,rfl⟩:=ry;refine(PySem.P.lt_str ?_:wpAny _ A _ Q E s);exact j
  .rename_i M J es hn;refine(yQ h1).c λa vs p G D=>?_;subst p;refine(yQ h2).c λb L C z F=>?_;subst C;subst rx;subst ry;refine(I.tuple G).b λC r pt _=>?_;refine(I.tuple z).b λp B m _=>?_;cases hn;refine Hb pt m ?_ #[0] prog w E Q j
   exact ZH (λd f x y u v k a b c i e=>DY I o n A.in1 d f x y u v k (show A.units+1+n<cLine by lia) a b c i e)
    (λd f x y u v k a b c i e=>OS I o n A.in1 d f x y u v k (show A.units+1+n<cLine by lia) a b c i e) D F r B h
  .cases h
end
section
variable{X:Cx}{b c e:Expr}{es:Q0}{f h:AX}
noncomputable def Mb(C:Int->Int->Prop)[∀i j,Decidable (C i j)](g:Int->Int->Int):Er->Er->Sto->R Er
 |.val (.int i),.val (.int j),S=>if C i j then .ok (.val (.int (g i j))) S else .no
 |_,_,_=>.no
noncomputable def zBY(g:Int->Int->Bool):Er->Er->Sto->R Er
 |.val (.int i),.val (.int j),S=>.ok (.val (.bl (g i j))) S
 |_,_,_=>.no
def WS[∀i j,Decidable (C i j)]{g:Int->Int->Int}(h: ∀i j,C i j->C' i j):KL X W (rI C' λi j=>.int (g i j)) (Mb C g):=by
 intro p q x y α S H Q b e c a;unfold Mb at a;split at a
 .split at a
  .rename_i d;exact Ym _ _ (yM e) (yM c) (h _ _ d) (Post.val a b (xM _))
  .exact a.elim
 .exact a.elim
def OT{g:Int->Int->Int}:KL X W (Fs λi j=>.int (g i j)) (Mb (λ_ _=>True) g):=by
 intro p q x y α S H Q b d c a;unfold Mb at a;split at a
 .rw[iP trivial]at a;exact Z0 _ _ (yM d) (yM c) (Post.val a b (xM _))
 .exact a.elim
def Yc{g:Int->Int->Bool}:KL X W (Fs λi j=>.bl (g i j)) (zBY g):=by
 intro p q x y α S H Q b d c a;unfold zBY at a;split at a
 .exact(Z0 _ _ (yM d) (yM c) (Post.val a b (wN _)))
 .exact a.elim
abbrev Cp:=Mb (λ_ _=>True) λi j=>i - j
def Yd(c:zI X W a f)(d:zI X W b g):zI X W (.BinOp a .Sub b pos) (λj S=>(f j S).bind λp m=>(g j m).bind λq S2=>Cp p q S2):=FH (Mq λ_ _ _ _ _ _ _ q=>sub_int q) OT c d
def Os(_ j:Int):Prop:=0<j/\j.natAbs.log2<9000
instance(i j:Int):Decidable (Os i j):=inferInstanceAs (Decidable (_/\_))
abbrev SR:=Mb Os λi j=>i / j
def Ye(d:zI X W a f)(e:zI X W b g):zI X W (.BinOp a .FloorDiv b pos) (λm S=>(f m S).bind λp u=>(g m u).bind λq S2=>SR p q S2):=FH (zBV λi j _ _ _ _ _ c q=>by refine floordiv_int (by have:=c.1;lia) ?_ (.inl (PyProof.noPylong_of_log2 c.2));rw[(Int.fdiv_eq_ediv_of_nonneg i (Int.le_of_lt c.1))];exact q) (WS λi j h=>h) d e
abbrev KN:=Mb (λ_ j=>0<j) λi j=>i % j
def Yf(c:zI X W a f)(d:zI X W b g):zI X W (.BinOp a .Mod b pos) (λm S=>(f m S).bind λp u=>(g m u).bind λq S2=>KN p q S2):=FH (zBV λi j _ _ _ _ _ e q=>by have k:_<j:=e;exact mod_int' #[0] (by rw[Int.fmod_eq_emod_of_nonneg i #[0]];exact q)) (WS λi j h=>h) c d
def Yg(i j:Int):Prop:=0<=j/\(Builtin.Int.intBits i:Int) * j<=2 ^ 27
instance(i j:Int):Decidable (Yg i j):=inferInstanceAs (Decidable (_/\_))
abbrev Hd:=Mb Yg λi j=>i ^ j.toNat
def Yh(d:zI X W a f)(e:zI X W b g):zI X W (.BinOp a .Pow b pos) (λm S=>(f m S).bind λp u=>(g m u).bind λq S2=>Hd p q S2):=FH (zBV λ_ _ _ _ _ _ _ c q=>pow_int c.1 c.2 q) (WS λi j h=>h) d e
def shlC(i j:Int):Prop:=0<=j/\j<=1000000/\i.natAbs<2 ^ 64
instance(i j:Int):Decidable (shlC i j):=inferInstanceAs (Decidable (_/\_/\_))
noncomputable def Ou(S:Sto):Er->Option (List MV)
 |.new ds=>some ds
 |.val (.loc l)=>match S[l]? with
  |some (.lst ds)=>some ds
  |_=>none
 |_=>none
def WT(j:↑27)(e:Ou S r=some ds)(d:DenX X.K α H r x): ∃a vs,x=.ref a/\H a=some (.lst vs)/\DenL X.K α H ds vs:=by
 unfold Ou at e;split at e
 .cases e;refine d.k λb vs k h _ l=>?_;subst k;exact Z0 b vs rfl h l
 .rename_i n;refine(iA d).a λa m h=>?_;subst m;split at e
  .rename_i es i;cases e;refine(j.obj n a _ h i).a λvs c l=>?_;exact Z0 a vs rfl c l
  .cases e
 .cases e
def ZI(p q:Er)(S:Sto):R Er:=match Ou S p,Ou S q with
 |some x,some y=>if x.length+y.length<=sizeLine then .ok (.new (x++y)) S else .no
 |_,_=>.no
def jU:Er->Er->Sto->R Er
 |.val (.int i),.val (.int j),S=>.ok (.val (.int (i+j))) S
 |.val (.str x),.val (.str y),S=>if x.length+y.length<=sizeLine then .ok (.val (.str (x++y))) S else .no
 |.val (.tup x),.val (.tup y),S=>if x.length+y.length<=sizeLine then .ok (.val (.tup (x++y))) S else .no
 |p,q,S=>ZI p q S
def He:OpR X (binaryOp .Add) (λx y H Q=> ∃a b ys,x=.ref a/\y=.ref b/\SqT X.K H a []/\SqT X.K H b ys/\Q (.ref b) H):=by
 intro pins s σ H x y v u Q I C z h;refine V0 λO=>?_;refine h.i λa b ys g o J L q=>?_;subst g;subst o;subst C;subst z;refine(I.tuple J).b λE r p1 _=>?_;refine(I.tuple L).b λo N p2 _=>?_;have A:=r.nil_iff.mpr rfl;subst A;obtain⟨⟨G,w,p,sl⟩,m,D,n,M⟩:=id p1;obtain⟨⟨k,j,_,d⟩,c,e,B,i⟩:=id p2;subst D M e i
 refine O ?_;exact concat_meets ⟨_,m,rfl⟩ ⟨_,c,rfl⟩ noFill_tuple_add seq_tuple_add PySem.F.slot_tuple_add PySem.F.entry_tuple_add (PySem.F.args_tuple_add_2 _ _)
  (tuple_addW0 a b _ _ n B w j sl d rfl) ⟨m,c,(Z0 (.ref b) H I rfl q)⟩
def Yi(K:zI X W a f)(L:zI X W b g):zI X W (.BinOp a .Add b pos) (λG S=>(f G S).bind λp I=>(g G I).bind λq S2=>jU p q S2):=by
 refine FH (Vv.or (WF.or (Wn.or (Nb.or He)))) ?_ K L;intro p q x y α S H Q d r m c;unfold jU at c;split at c
 .exact .inl (Z0 _ _ (yM r) (yM m) (Post.val c d (xM _)))
 .split at c
  .rename_i i;refine .inr (.inl (Ym _ _ (jM r) (jM m) (by rw[dU];exact i) ?_));rw[Nk];exact Post.val c d (mE _)
  .exact c.elim
 .split at c
  .rename_i B z i;refine(bF r).c λj vs M w e=>?_;subst M;refine(bF m).c λn o N s h=>?_;subst N;by_cases A:vs=[]
   .subst A;have v:=e.length;refine .inr (.inr (.inr (.inr (XV j n o rfl rfl w s ?_))));have:B=[]:=by cases B with |nil=>rfl|cons _ _=>simp at v
    subst this;exact Post.val c d (eO s h)
   .refine .inr (.inr (.inr (.inl (YQ j n vs o ⟨rfl,rfl,w,s,A,by rw[e.length,h.length];exact i,λk=>?_,λk p u=>Post.newt c d u (e.append h)⟩))));subst k;have v:=h.length;have:z=[]:=by cases z with |nil=>rfl|cons _ _=>simp at v
    subst this;rw[aN]at c;exact Post.val c d (eO w e)
  .exact c.elim
 .unfold ZI at c;split at c
  .rename_i E J F C;split at c
   .rename_i i;refine(WT d F r).c λj vs O k e=>?_;subst O;refine(WT d C m).c λn o P D h=>?_;subst P;exact .inr (.inr (.inl (YQ j n vs o ⟨rfl,rfl,k,D,by rw[e.length,h.length];exact i,λp u=>Post.newl c d u (e.append h)⟩)))
   .exact c.elim
  .exact c.elim
def mulC(i j:Int):Prop:=(-(2 ^ 64)<i/\i<2 ^ 64)\/(-(2 ^ 64)<j/\j<2 ^ 64)\/(i.natAbs.log2<4000/\j.natAbs.log2<4000)
theorem ZJ(h:i.natAbs.log2<4000):Builtin.Int.intBits i<=2 ^ 20:=by unfold Builtin.Int.intBits;split<;>lia
def mulC.ok(h:mulC i j):IntMulOk i j:=by
 rcases h with h|h|⟨h1,h2⟩
 .exact CMul.ok (.inl h)
 .exact CMul.ok (.inr h)
 .exact .of_bits (ZJ h1) (ZJ h2)
def Ov:OpR X (binaryOp .Mult) (rI mulC λi j=>.int (i * j)):=zBV λ_ _ _ _ _ _ _ a q=>mul_int q a.ok
instance(i j:Int):Decidable (mulC i j):=inferInstanceAs (Decidable (_\/_\/_))
noncomputable def Tt(p:Er)(k:Int)(S:Sto):R Er:=match Ou S p with
 |some x=>if 0<=k/\k<100000/\x.length * k.toNat<=sizeLine then .ok (.new (List.replicate k.toNat x).flatten) S else .no
 |none=>.no
def BF(p q:Er)(S:Sto):R Er:=match q with
 |.val (.int k)=>match p with
  |.val (.int i)=>if mulC i k then .ok (.val (.int (i * k))) S else .no
  |.val (.str x)=>if 0<=k/\k<1000/\x.length<=1000 then .ok (.val (.str (OK x k))) S else .no
  |_=>Tt p k S
 |_=>.no
theorem DenL.rep{K:U0}(l:↑73): ∀k:Nat,DenL K α H (List.replicate k ds).flatten (List.replicate k vs).flatten
 |0=>zZ
 |k+1=>by rw[ē];exact l.append (DenL.rep l k)
theorem Yj(r:zI X W a f)(s:zI X W b g):zI X W (.BinOp a .Mult b pos) (λj S=>(f j S).bind λp u=>(g j u).bind λq S2=>BF p q S2):=by
 refine FH (Ov.or (WN.or Wo)) ?_ r s;intro p q x y α S H Q e i h c;unfold BF at c;split at c;split at c
 .split at c
  .rename_i d;exact .inl (Ym _ _ (yM i) (yM h) d (Post.val c e (xM _)))
  .exact c.elim
 .split at c
  .rename_i d;exact .inr (.inl (Yk _ _ ⟨jM i,yM h,d.1,d.2.1,d.2.2,Post.val c e (mE _)⟩))
  .exact c.elim
 .unfold Tt at c;split at c
  .rename_i w o;split at c
   .rename_i d;refine(WT e o i).c λm vs z n k=>?_;subst z;exact .inr (.inr (YR m _ vs ⟨rfl,yM h,n,by lia,by lia,by rw[k.length];exact d.2.2,λp v=>Post.newl c e v (k.rep _)⟩))
   .exact c.elim
  .exact c.elim
 .exact c.elim
noncomputable def zK:Nat:=40
noncomputable def BG(p q:Er)(S:Sto):R Er:=match GK S zK p q with
 |some k=>.ok (.val (.bl k)) S
 |none=>.no
def KO(p q:Er)(S:Sto):R Er:=match GK S zK p q with
 |some k=>.ok (.val (.bl !k)) S
 |none=>.no
theorem Hf(m:↑20):OpR X (compareOp .Eq) (λx y H Q=> ∃α S p q k,Wd X.g α S H/\DenX X.K α H p x/\DenX X.K α H q y/\GK S zK p q=some k/\Q (.bl k) H):=by intro pins s σ H x y v u Q I a d h;refine h.q λα S p q k i j c e b=>?_;exact Ya I i zK (by unfold zK;lia) j c a d e X.prog X.w _ _ (Z0 (.bl k) H I rfl b)
def ZK:KL X W (λx y H Q=> ∃α S p q k,Wd X.g α S H/\DenX X.K α H p x/\DenX X.K α H q y/\GK S zK p q=some k/\Q (.bl k) H) BG:=by
 intro p q x y α S H Q b d c a;unfold BG at a;split at a
 .rename_i k e;exact WX (α) S p q k ⟨b,d,c,e,Post.val a b (wN _)⟩
 .exact a.elim
def Ow:KL X W (λx y H Q=> ∃α S p q k,Wd X.g α S H/\DenX X.K α H p x/\DenX X.K α H q y/\GK S zK p q=some k/\Q (.bl (!k)) H) KO:=by
 intro p q x y α S H Q b d c a;unfold KO at a;split at a
 .rename_i k e;exact WX (α) S p q k ⟨b,d,c,e,Post.val a b (wN _)⟩
 .exact a.elim
def W4(e:↑20)(c:zI X W a f)(d:zI X W b g):zI X W (.Compare a [.Eq] [b] pos) (λj S=>(f j S).bind λp m=>(g j m).bind λq S2=>BG p q S2):=WO (Hf e) ZK c d
def W5(e:↑20)(c:zI X W a f)(d:zI X W b g):uZ X W (.Compare a [.Eq] [b] pos) (λj S=>((f j S).bind λp m=>(g j m).bind λq S2=>BG p q S2).bind gY):=AA (Hf e) ZK c d
def W6(C:↑20)(o:zI X W a f)(r:zI X W b g):uZ X W (.Compare a [.NotEq] [b] pos) (λj S=>((f j S).bind λp m=>(g j m).bind λq S2=>KO p q S2).bind gY):=AA ((by intro pins s σ H x y v u Q I c z h;refine h.q λα S p q k n B i e d=>?_;exact Yb I n zK (by unfold zK;lia) B i c z e X.prog X.w _ _ (Z0 (.bl (!k)) H I rfl d))) Ow o r
def Hg:Er->Er->Sto->R Er
 |.val d,.val f,S=>match GQ S zK d f with
  |some k=>.ok (.val (.bl k)) S
  |none=>.no
 |_,_,_=>.no
theorem WU(n:↑20):OpR X (compareOp .Lt) (λx y H Q=> ∃α S d f k,Wd X.g α S H/\Den X.K α H d x/\Den X.K α H f y/\GQ S zK d f=some k/\Q (.bl k) H):=by intro pins s σ H x y v u Q I a i h;refine h.q λα S d f k j m c e b=>?_;exact OS I j zK X.A d f x y v u k (by unfold zK;lia) m c a i e X.prog X.w _ _ (Z0 (.bl k) H I rfl b)
def OU:KL X W (λx y H Q=> ∃α S d f k,Wd X.g α S H/\Den X.K α H d x/\Den X.K α H f y/\GQ S zK d f=some k/\Q (.bl k) H) Hg:=by
 intro p q x y α S H Q b h c a;unfold Hg at a;split at a
 .split at a
  .rename_i k e;exact WX (α) S _ _ k ⟨b,h,c,e,Post.val a b (wN _)⟩
  .exact a.elim
 .exact a.elim
def W7(e:↑20)(c:zI X W a f)(d:zI X W b g):zI X W (.Compare a [.Lt] [b] pos) (λj S=>(f j S).bind λp m=>(g j m).bind λq S2=>Hg p q S2):=WO (WU e) OU c d
def W8(e:↑20)(c:zI X W a f)(d:zI X W b g):uZ X W (.Compare a [.Lt] [b] pos) (λj S=>((f j S).bind λp m=>(g j m).bind λq S2=>Hg p q S2).bind gY):=AA (WU e) OU c d
abbrev zBZ:=zBY λi j=>decide (j<i)
def W9(c:zI X W a f)(d:zI X W b g):uZ X W (.Compare a [.Gt] [b] pos) (λj S=>((f j S).bind λp m=>(g j m).bind λq S2=>zBZ p q S2).bind gY):=AA (R9 λ_ _ _ _ _ _ _ q=>gt_int q) Yc c d
noncomputable def RO(p q:Er)(S:Sto):R Er:=match p with
 |.val (.int i)=>(match q with |.val (.int j)=>.ok (.val (.bl (decide (i<=j)))) S|_=>.no)
 |.val (.str x)=>(match q with |.val (.str y)=>.ok (.val (.bl (!decide (y<x)))) S|_=>.no)
 |_=>.no
def HZ:KL X W (λx y H Q=>Fs (λi j=>.bl (decide (i<=j))) x y H Q\/(∃i j,x=.str i/\y=.str j/\Q (.bl (!decide (j.cps.toList<i.cps.toList))) H)) RO:=by
 intro p q x y α S H Q b d c a;unfold RO at a;split at a
 .split at a;exact .inl (Z0 _ _ (yM d) (yM c) (Post.val a b (wN _)));exact a.elim
 .split at a;refine .inr (Z0 _ _ (jM d) (jM c) ?_);rw[OJ,OJ];exact Post.val a b (wN _);exact a.elim
 .exact a.elim
def Ox(d:zI X W a f)(e:zI X W b g)(i:zI X W c h)(hm:lastMarks [.LtE,.LtE] [b,c]=false:=by with_unfolding_all rfl):zI X W (.Compare a [.LtE,.LtE] [b,c] pos) (λj S=>(f j S).bind λp m=>(g j m).bind λq S2=>Fc RO RO p q S2 λu=>h j u):=SJ (RT.or oZ) (RT.or oZ) HZ HZ d e i hm
def Oy(e:zI X W a f)(i:zI X W b g)(d:zI X W c h)(hm:lastMarks [.LtE,.LtE] [b,c]=false:=by with_unfolding_all rfl):uZ X W (.Compare a [.LtE,.LtE] [b,c] pos) (λj S=>((f j S).bind λp m=>(g j m).bind λq S2=>Fc RO RO p q S2 λz=>h j z).bind gY):=(by
  refine V0 λI=>?_;refine e.a λG e n=>?_;refine i.a λD i fb=>?_;refine d.a λE d A=>?_;refine I ?_;refine Z3 _ (Fw (RT.or oZ) (RT.or oZ) e i d hm) (λα j S σ H Q w sl q=>?_);refine chain HZ HZ n fb A w sl (Q:=λx H'=> ∃k,x=.bl k/\Q k H') (q.bind λu p m o C F y v r s=>?_);refine(SI (s.shift y)).a λk u B=>?_;subst u;exact Z3 k (sG r.1) (B.here v rfl))
def Oz(i:↑20)(d:zI X W a f)(e:zI X W b g)(k:zI X W c h)(hm:lastMarks [.LtE,.Lt] [b,c]=false:=by with_unfolding_all rfl):zI X W (.Compare a [.LtE,.Lt] [b,c] pos) (λj S=>(f j S).bind λp m=>(g j m).bind λq S2=>Fc RO Hg p q S2 λu=>h j u):=SJ (RT.or oZ) (WU i) HZ OU d e k hm
noncomputable def BH(p q:Er)(S:Sto):R Er:=match q with
 |.val .non=>match p with
  |.val .non=>.ok (.val (.bl false)) S
  |_=>.ok (.val (.bl true)) S
 |_=>.no
def Hj:KL X W (λx y H Q=>y=.non/\Q (.bl (!decide (x=.non))) H) BH:=by
 intro p q x y α S H Q e c d a;unfold BH at a;split at a;split at a
 .cases vZ c;exact⟨vZ d,Post.val a e (wN _)⟩
 .rename_i i h hn;rw[(show decide (x=.non)=false by
   cases p with
   |new ds=>refine c.d λb vs j _=>?_;subst j;rfl
   |val m=>
    cases m with
    |non=>exact absurd rfl (λz=>by first |exact hn z|exact hn z rfl|exact hn _ z|exact hn rfl z)
    |bl b=>cases sG c;rfl
    |int b=>cases yM c;rfl
    |str b=>cases jM c;rfl
    |typ b=>cases Gq c;rfl
    |obj b b' b''=>refine(Wy c).p λ_ _ _ _ _ g=>g.elim λk _=>?_;subst k;rfl
    |tup b=>refine(bF c).d λ_ _ n _=>?_;subst n;rfl
    |scr b=>refine(HU c).d λ_ _ o _=>?_;subst o;rfl
    |loc b=>obtain⟨_,rfl,_⟩:=iA c;rfl)];exact⟨vZ d,Post.val a e (wN _)⟩
 .exact a.elim
def Hk(d:zI X W a f)(e:zI X W b g):uZ X W (.Compare a [.IsNot] [b] pos) (λj S=>((f j S).bind λp m=>(g j m).bind λq S2=>BH p q S2).bind gY):=AA (by
  intro pins s σ H x y v u Q I c i h;obtain⟨rfl,q⟩:=h;subst i;refine isnot_none_gen (WB I q ?_)
  cases x<;>first
   |(subst c;rfl)
   |(obtain⟨t,rfl⟩:=c;rfl)) Hj d e
noncomputable def getL(ds:X0):Er->Sto->R Er
 |.val (.int i),S=>match uY ds i with |some d=>.ok (.val d) S|none=>.no
 |_,_=>.no
def jV:Er->Er->Sto->R Er
 |.val (.str x),.val (.int i),S=>if x.length<=sizeLine then match uY x i with |some c=>.ok (.val (.str [c])) S|none=>.no else .no
 |.val (.tup ds),q,S=>getL ds q S
 |p,q,S=>match jO S p with |some ds=>getL ds q S|none=>.no
def Pa{K:U0}(l:↑73)(e:uY ds i=some d): ∃v,uY vs i=some v/\Den K α H d v:=by
 unfold uY at e ⊢;rw[l.length]
 cases z:NW ↑12 i with
 |none=>rw[z]at e;cases e
 |some j=>
  rw[z]at e;refine(l.at e).a λv a b=>?_;exact Z3 v a b
def X1(D:zI X W a f)(E:zI X W b g)(hs:GN b:=by exact λ_ _=>rfl):zI X W (.Subscript a b pos) (λz S=>(f z S).bind λp B=>(g z B).bind λq S2=>jV p q S2):=by
 refine Tq (Nc.or (ix_tup.or ix_str)) ?_ D E hs;intro p q x y α S H Q o u n c;have k: ∀{ds:X0}{vs:List V}{i:Int}{d:MV},DenL X.K α H ds vs->uY ds i=some d->Post X.g W α H _ Q-> ∃v,uY vs i=some v/\Q v H:=λl e c=>by refine(Pa l e).a λv h j=>?_;exact Z3 v h (Post.val c o j)
 unfold jV at c;split at c
 .split at c
  .rename_i A;split at c
   .rename_i w e;refine .inr (.inr (XV _ _ w (jM u) (yM n) (by rw[dU];exact A) (by rw[OJ];exact e) ?_));exact Post.val c o (mE [w])
   .exact c.elim
  .exact c.elim
 .unfold getL at c;split at c
  .split at c
   .rename_i d e;refine(bF u).c λm vs F s r=>?_;subst F;refine(k r e c).a λv h j=>?_;exact .inr (.inl (YQ m vs _ v ⟨rfl,yM n,s,h,j⟩))
   .exact c.elim
  .exact c.elim
 .split at c
  .rename_i ds C;unfold getL at c;split at c
   .split at c
    .rename_i d e;refine(sM rfl o C u).c λm vs G s r=>?_;subst G;refine(k r e c).a λv h j=>?_;exact .inl (YQ m vs _ v ⟨rfl,yM n,s,h,j⟩)
    .exact c.elim
   .exact c.elim
  .exact c.elim
end
def KP{lo:P0}(d:IsTup s.heap t its)(hs:s.heap.IsSliceOf sl vl vu .none)(i:IsPart vl lo)(j:IsPart vu hi)
  (h0:HT.sIx its.size 0 lo=0) (h1:HT.sIx its.size its.size hi=its.size) (h:Q (.ref t) s):wpAny ↑6 A (getItem (.ref t) (.ref sl)) Q E s:=by
 have a:=d.typeIs;unfold getItem
 try with_reducible refine ù ?_
 first |refine wB _|skip
 refine wB (wpAny_sequenceKey a ↑11 ?_);refine wB (í a Ĭ (ë Ĭ a entry_tuple_getitem ?_ (args_tuple_getitem _ _)));show wpAny _ _ (Builtin.Tuple.tupleItemsOf _ >>= _) _ _ s;refine wB (tupleItemsOf_ d (wB (Ĥ (by refine(id hs).b λe c b _=>?_;exact Z3 e c b) ?_)));refine wB (HT.sliceApplied_gen hs i j ?_);rw[21];rw[iP (by rw[h0,h1];simp)];refine wB (wB (Ĥ a (wP ?_)));refine wB (Ğ ?_)
 first
  |exact wP (Z3 _ rfl (wP h))
  |exact wB _
  |exact wB _
section
variable{e:Expr}{h:AX}
def Pb:SlR X (λx lo hi H Q=> ∃a xs,x=.ref a/\SqT X.K H a xs/\HT.sIx ↑8 0 lo=0/\HT.sIx ↑8 ↑8 hi=↑8/\Q (.ref a) H):=by
 intro pins s σ H x v o p lo hi sl Q I j hs k m h;refine h.l λa xs g e n i q=>?_;subst g;subst j;refine(I.tuple e).b λc r d u=>?_;have b:c.toArray.size=xs.length:=by rw[sA0];exact r.length.symm
 exact Z0 _ _ PyProof.Rows.slot_tuple_getitem.lookup d.typeIs (KP d hs k m (by rw[b];exact n) (by rw[b];exact i) (Z0 (.ref a) H I rfl q))
def OV:Er->Option Int->Option Int->Sto->R Er
 |.val (.str x),lo,hi,S=>if x.length<=sizeLine then .ok (.val (.str (rY x lo hi))) S else .no
 |.val (.tup ds),lo,hi,S=>.ok (.val (.tup (rY ds lo hi))) S
 |p,lo,hi,S=>match jO S p with |some ds=>.ok (.new (rY ds lo hi)) S|none=>.no
def Cq{lo:P0}(b:HT.sIx ↑12 0 lo=0)(a:HT.sIx ↑12 ↑12 hi=↑12):rY ds lo hi=ds:=by unfold rY;rw[b,a];simp
def Yl{lo:Option Expr}(s:zI X W a f)(n:Wz X W lo lf)(o:Wz X W hi hf):zI X W (.Subscript a (.Slice lo hi none p2) pos) (λj S=>(f j S).bind λp z=>(lf j z).bind λl S2=>(hf j S2).bind λu B=>OV p l u B):=by
 refine Gw (Wt.or (Nd.or (Wh.or Pb))) ?_ s n o;intro p lo hi x α S H Q d m b;unfold OV at b;split at b
 .split at b
  .rename_i v;exact .inl (ZB _ (jM m) v (Post.val b d (mE _)))
  .exact b.elim
 .rename_i _ _ _ r;refine(bF m).c λi vs g h c=>?_;subst g;by_cases hw:HT.sIx ↑10 0 lo=0/\HT.sIx ↑10 ↑10 hi=↑10
  .have e:=Cq (by rw[<-c.length];exact hw.1) (by rw[<-c.length];exact hw.2);rw[e]at b;exact .inr (.inr (.inr (XD i vs rfl h hw.1 hw.2 (Post.val b d (eO h c)))))
  .exact .inr (.inr (.inl (Ym i vs rfl h hw (λp k=>Post.newt b d k (c.cut lo hi)))))
 .split at b
  .rename_i r q;refine(sM rfl d q m).c λi vs w h c=>?_;subst w;exact .inr (.inl (Z0 i vs rfl h (λp k=>Post.newl b d k (c.cut lo hi))))
  .exact b.elim
theorem DenL.pick{K:U0}(l:↑73): ∀j:List Nat,DenL K α H (j.filterMap (ds[·]?)) (j.filterMap (vs[·]?))
 |[]=>zZ
 |i::j=>by
  cases z:ds[i]? with
  |none=>
   rw[Ņ z,Ņ (by rw[ľ,l.length];exact ľ.mp z)];exact DenL.pick l j
  |some d=>
   refine(l.at z).a λv m q=>?_;rw[ŋ z,ŋ m];exact zQ q (DenL.pick l j)
theorem Vals.pick(r:Vals xs us): ∀j:List Nat,Vals (j.filterMap (xs[·]?)) (j.filterMap (us[·]?))
 |[]=>.nil
 |i::j=>by
  cases z:xs[i]? with
  |none=>rw[Ņ z,Ņ (r.none_of z)];exact Vals.pick r j
  |some d=>
   refine(r.get z).a λv m q=>?_;rw[ŋ z,ŋ m];exact .cons q (Vals.pick r j)
end
section
variable{X:Cx}{W:XW}{a b c e:Expr}{g h:AX}
def SS(S:Sto)(n:Nat)(d:MV):List MV->Option (List Bool)
 |[]=>some []
 |y::ys=>(eqv S n y d).bind λk=>(SS S n d ys).map (k::·)
section
variable{α:B9}{S:Sto}{H:Hp}{pins:L1}{σ:St}{s:œ}
def Pc(X:Cx)(α:B9)(S:Sto)(H:Hp)(n:Nat)(d:MV)(u:Ŕ):Bool:=open Classical in decide (∃y x,Den X.K α H y x/\RelV x u/\eqv S n y d=some true)
open Classical in
def Pd(I:↑2)(j:↑27){n:Nat}{d y:MV}{x:V}{u:Ŕ}{k:Bool}(b:Den X.K α H y x)(r:RelV x u)(e:eqv S n y d=some k):Pc X α S H n d u=k:=by
 unfold Pc
 cases k with
 |true=>exact dT0 ⟨y,x,b,r,e⟩
 |false=>
  refine dF0 λ⟨o,m,a,i,c⟩=>?_;have h:=r.inj i;subst h;rw[b.inj I j a]at e;rw[e]at c;cases c
theorem BI(I:↑2)(h:↑27)(b:A.units+n<cLine)(m:Den X.K α H d x)(i:RelV x v): ∀{ys}{vs}{us}{bs},DenL X.K α H ys vs->Vals vs us->SS S n d ys=some bs->
  us.map (Pc X α S H n d)=bs/\ ∀u∈us,SeqAt.EqAt A s u v (Pc X α S H n d u)
 |[],_,_,bs,l,r,e=>by cases l.isnil;cases r;cases e;exact⟨rfl,λu b=>by cases b⟩
 |y::ys,_,_,bs,l,r,e=>by
  refine l.uncons.c λJ G w j B=>?_;subst w
  cases r with
  |cons r1 r2=>
   unfold SS at e
   cases z:eqv S n y d with
   |none=>rw[z]at e;cases e
   |some k=>
    rw[z]at e
    cases c:SS S n d ys with
    |none=>simp[c]at e
    |some cs=>
     simp[c]at e;subst e;obtain⟨p,q⟩:=BI I h b m i B r2 c;have o:=Pd I h j r1 z;refine⟨by rw[å,p,o],λu a=>?_⟩;rcases mC.mp a with rfl|a
     .rw[o];exact DY I h n A y d _ _ _ _ k b j m r1 i z
     .exact q u a
end
theorem any_map{us:A0}{f:Ŕ->Bool}(h:us.map f=bs):us.toArray.any f=bs.any id:=by subst h;simp[List.any_map]
def itemsOf(S:Sto):Er->Option (List MV)
 |.val (.tup ds)=>some ds
 |r=>jO S r
def BK(b:↑27)(e:itemsOf S r=some ds)(d:DenX X.K α H r x): ∃a vs,x=.ref a/\(SqL X.K H a vs\/SqT X.K H a vs)/\DenL X.K α H ds vs:=by
 unfold itemsOf at e;split at e
 .cases e;refine(bF d).c λa vs c s l=>?_;subst c;exact Z0 a vs rfl (.inr s) l
 .refine(sM rfl b e d).c λa vs h s l=>?_;subst h;exact Z0 a vs rfl (.inl s) l
noncomputable def OW(a:Bool)(p q:Er)(S:Sto):R Er:=match p with
 |.val d=>match itemsOf S q with
  |some ys=>match SS S zK d ys with
   |some bs=>.ok (.val (.bl (if a=true then !bs.any id else bs.any id))) S
   |none=>.no
  |none=>.no
 |.new _=>.no
def KQ(a:Bool):Er->Er->Sto->R Er
 |.val (.str [c]),.val (.str y),S=>.ok (.val (.bl (if a=true then !decide (c∈y)else decide (c∈y)))) S
 |p,q,S=>OW a p q S
abbrev Hl(X:Cx)(a:Bool):R2:=λx y H Q=> ∃α S d q ys bs,Wd X.g α S H/\Den X.K α H d x/\DenX X.K α H q y/\itemsOf S q=some ys/\SS S zK d ys=some bs/\Q (.bl (if a=true then !bs.any id else bs.any id)) H
theorem Cr(D:↑20):OpR X (compareOp .NotIn) (Hl X true):=by
 intro pins s σ H x y v u Q I p C h;refine h.t λα S d q ys bs a=>a.f λi n B z o m=>?_;refine(BK i z B).c λa vs g b l=>?_;subst g;subst C;rcases b with b|b
 .obtain⟨k,r,e,_⟩:=I.list b;obtain⟨c,j⟩:=BI I i (A:=X.A.in1) (by show X.A.units+1+zK<cLine;unfold zK;lia) n p l r o;refine SeqAt.notIn_listAt _ e.isList (λw hw=>j w (by simpa using hw)) ⟨.bl _,H,I,rfl,?_⟩;rw[any_map c];exact m
 .obtain⟨k,r,e,_⟩:=I.tuple b;obtain⟨c,j⟩:=BI I i (A:=X.A.in1) (by show X.A.units+1+zK<cLine;unfold zK;lia) n p l r o;refine SeqAt.notIn_tupleAt _ e (λw hw=>j w (by simpa using hw)) ⟨.bl _,H,I,rfl,?_⟩;rw[any_map c];exact m
def OX:KL X W (λx y H Q=>(∃i j,x=.str i/\y=.str j/\Q (.bl (if neg=true then !↑57 else !(Builtin.Str.occurrences j i 0 ↑44 1).isEmpty)) H)\/Hl X neg x y H Q) (KQ neg):=by
 intro p q x y α S H Q b e c a;unfold KQ at a;split at a
 .refine .inl (Z0 _ _ (jM e) (jM c) ?_);rw[<-Nl,PySem.StrLaws.found_one];exact Post.val a b (wN _)
 .unfold OW at a;split at a
  .rename_i d _;split at a
   .rename_i ys h;split at a
    .rename_i bs k;exact .inr (WW (α) S _ q ys bs ⟨b,e,c,h,k,Post.val a b (wN _)⟩)
    .exact a.elim
   .exact a.elim
  .exact a.elim
def OpR.imp{f:Ŕ->Ŕ->Sem Ŕ}(h:OpR X f r)(i: ∀x y H Q,r' x y H Q->r x y H Q):OpR X f r':=λpins s σ H x y v u Q I a b q=>h pins s σ H x y v u Q I a b (i x y H Q q)
def Hm(F:↑20):OpR X (compareOp .In) (λx y H Q=>(∃i j,x=.str i/\y=.str j/\Q (.bl (if false =true then !↑57 else !(Builtin.Str.occurrences j i 0 ↑44 1).isEmpty)) H)\/Hl X false x y H Q):=
 OpR.imp (Bw.or ((by
   intro pins s σ H x y v u Q I B E h;refine h.t λα S d q ys bs a=>a.f λk p D C z o=>?_;refine(BK k C D).c λa vs g b l=>?_;subst g;subst E;rcases b with b|b
   .obtain⟨n,r,e,_⟩:=I.list b;obtain⟨c,m⟩:=BI I k (A:=X.A.in1) (by show X.A.units+1+zK<cLine;unfold zK;lia) p B l r z;refine SeqAt.in_listAt _ e.isList (λw hw=>m w (by simpa using hw)) ⟨.bl _,H,I,rfl,?_⟩;rw[any_map c];exact o
   .obtain⟨n,r,e,_⟩:=I.tuple b;obtain⟨c,m⟩:=BI I k (A:=X.A.in1) (by show X.A.units+1+zK<cLine;unfold zK;lia) p B l r z;refine SeqAt.in_tupleAt _ e (λw hw=>m w (by simpa using hw)) ⟨.bl _,H,I,rfl,?_⟩;rw[any_map c];exact o))) λx y H Q q=>q.imp (λq=>q) λq=>q
def X2(e:↑20)(c:zI X W a f)(d:zI X W b g)(hm:behindInMarks .In b=false:=by with_unfolding_all rfl):zI X W (.Compare a [.In] [b] pos) (λj S=>(f j S).bind λp m=>(g j m).bind λq S2=>KQ false p q S2):=WO (Hm e) OX c d hm
def X3(e:↑20)(c:zI X W a f)(d:zI X W b g)(hm:behindInMarks .In b=false:=by with_unfolding_all rfl):uZ X W (.Compare a [.In] [b] pos) (λj S=>((f j S).bind λp m=>(g j m).bind λq S2=>KQ false p q S2).bind gY):=AA (Hm e) OX c d hm
def Hn(e:↑20)(c:zI X W a f)(d:zI X W b g)(hm:behindInMarks .NotIn b=false:=by with_unfolding_all rfl):uZ X W (.Compare a [.NotIn] [b] pos) (λj S=>((f j S).bind λp m=>(g j m).bind λq S2=>KQ true p q S2).bind gY):=AA ((OpR.imp (NU.or (Cr e)) λx y H Q q=>q.imp (λq=>q) λq=>q)) OX c d hm
def rS{K:U0}(d:ArgsX K α H [r] vs): ∃v,vs=[v]/\DenX K α H r v:=by
 cases d with
 |cons a l=>cases l;exact Z3 _ rfl a
def Tu{K:U0}(d:ArgsX K α H [r,r'] vs): ∃v u,vs=[v,u]/\DenX K α H r v/\DenX K α H r' u:=by
 cases d with
 |cons a l=>refine(rS l).a λu c b=>?_;subst c;exact Z0 _ u rfl a b
def nZ(s:List Er)(S:Sto):R Er:=match s with
 |[r]=>match r with
  |.val (.str x)=>if x.length<=sizeLine then .ok (.val (.int x.length)) S else .no
  |_=>match itemsOf S r with |some ds=>.ok (.val (.int ds.length)) S|none=>.no
 |_=>.no
def Yn:pF X W ↑55 nZ:=by
 intro m vs α S H Q h d b;unfold nZ at b;split at b;split at b
 .split at b
  .rename_i k;refine(rS d).a λv g c=>?_;subst g;cases jM c;refine .inl ⟨_,rfl,by rw[dU];exact k,?_⟩;exact Post.val b h (xM _)
  .exact b.elim
 .split at b
  .rename_i n e;refine(rS d).a λv o c=>?_;subst o;refine(BK h e c).c λa j q i l=>?_;subst q;refine .inr (Z0 a j rfl i ?_);rw[l.length];exact Post.val b h (xM _)
  .exact b.elim
 .exact b.elim
def Ct:CallR X (.builtin "len") ↑55:=OE.or (by
  intro pins s σ H xs k Q I r h;refine h.c λp ys g b q=>?_;subst g;refine(vals1 r).a λu m i=>?_;subst m;subst i;have hn:=DS;rcases b with b|b
  .obtain⟨d,e,c,j⟩:=I.list b;have a:=e.length;exact Calls.call_len_list c.isList (by simp only[sA0]<;>lia) ⟨.int ↑40,H,I.tok _,⟨_,by rw[sA0,a]⟩,q⟩
  .obtain⟨d,e,c,j⟩:=I.tuple b;have a:=e.length;exact len_tuple c (by simp only[sA0]<;>lia) ⟨.int ↑40,H,I.tok _,⟨_,by rw[sA0,a]⟩,q⟩)
noncomputable def Pe:List Er->Sto->R Er
 |[.val (.int i)],S=>.ok (.val (.int (if i<0 then -i else i))) S
 |_,_=>.no
def Yo:pF X W (λxs H Q=> ∃i,xs=[.int i]/\Q (.int (if i<0 then -i else i)) H) Pe:=by
 intro e vs α S H Q b d a;unfold Pe at a;split at a
 .refine(rS d).a λv g c=>?_;subst g;cases yM c;exact⟨_,rfl,Post.val a b (xM _)⟩
 .exact a.elim
noncomputable def BL:List MV->Option (List Bool)
 |[]=>some []
 |.bl b::r=>(BL r).map (b::·)
 |_::_=>none
theorem LY{K:U0}: ∀{ds}{bs}{vs},BL ds=some bs->DenL K α H ds vs->vs=bs.map V.bl
 |[],_,_,e,l=>by cases e;exact l.isnil
 |d::r,bs,_,e,l=>by
  cases d with
  |bl b=>
   unfold BL at e
   cases z:BL r with
   |none=>rw[z]at e;cases e
   |some cs=>
    rw[z]at e;cases e;refine l.uncons.c λv us a m j=>?_;subst a;rw[pD m,LY z j];rfl
  |_=>cases e
def WV:List Er->Sto->R Er
 |[r],S=>match (jO S r).bind BL with |some bs=>.ok (.val (.bl (bs.all id))) S|none=>.no
 |_,_=>.no
def Yp(i:X.calm=true):pF X W (λxs H Q=> ∃(a:Addr)(bs:O0),xs=[.ref a]/\SqL X.K H a (bs.map V.bl)/\X.calm=true/\Q (.bl (bs.all id)) H) WV:=by
 intro k vs α S H Q c d b;unfold WV at b;split at b
 .split at b
  .rename_i bs e;refine(rS d).a λv g j=>?_;subst g
   cases z:jO S _ with
   |none=>rw[z]at e;cases e
   |some ds=>
    rw[z]at e;refine(sM rfl c z j).c λh m n s l=>?_;subst n;refine Ym h bs rfl ?_ i (Post.val b c (wN _));rw[<-LY e l];exact s
  .exact b.elim
 .exact b.elim
def oE(S:Sto):Er->Option String
 |.val .non=>some "NoneType"
 |.val (.bl _)=>some "bool"
 |.val (.int _)=>some "int"
 |.val (.str _)=>some "str"
 |.val (.tup _)=>some "tuple"
 |.val (.typ _)=>none
 |.val (.obj _ _ _)=>none
 |r=>(jO S r).map λ_=>"list"
noncomputable def OY(t T:String):Bool:=t==T || (t=="bool"&&T=="int")
noncomputable def known(T:String):Bool:=T=="int" || T=="bool" || T=="str" || T=="tuple" || T=="list"
noncomputable def BM:List Er->Sto->R Er
 |[r,.val (.typ T)],S=>match oE S r with
  |some t=>if known T=true then .ok (.val (.bl (OY t T))) S else .no
  |none=>.no
 |_,_=>.no
theorem cU(K)(b:t="NoneType"\/t="bool"\/t="int"\/t="str"\/t="tuple"\/t="list")(hT:known T=true):PySem.W.kitOne K (.type t) (.type T)=some (OY t T):=by
 have a:T="int"\/T="bool"\/T="str"\/T="tuple"\/T="list":=by
  unfold known at hT;simp only[Bool.or_eq_true,beq_iff_eq]at hT;rcases hT with(((h|h)|h)|h)|h
  .exact .inl h
  .exact .inr (.inl h)
  .exact .inr (.inr (.inl h))
  .exact .inr (.inr (.inr (.inl h)))
  .exact .inr (.inr (.inr (.inr h)))
 rcases b with rfl|rfl|rfl|rfl|rfl|rfl<;>rcases a with rfl|rfl|rfl|rfl|rfl<;>kernel_rfl
def Ho:CallR X (.builtin "isinstance") ↑71:=by
 intro pins s σ H xs B Q I y h;refine h.t λα S r x t T C=>C.f λD v d b c q=>?_;subst D;refine(vals2 y).c λu A E e w=>?_;subst E;cases w;have fin: ∀n,EP X pins σ Q _ {s with toks:=n}:=λn=>(Z0 (.bl _) H (I.tok _) rfl q)
 unfold oE at b;split at b
 .cases b;cases vZ d;cases e;exact PySem.W.kia_one PySem.W.kitx_none I.kIn True.intro (cU X.K (.inl rfl) c) (λz=>nomatch z) fin
 .cases b;cases sG d;cases e;exact PySem.W.kia_one PySem.W.kitx_bool I.kIn True.intro (cU X.K (.inr (.inl rfl)) c) (λz=>nomatch z) fin
 .cases b;cases yM d;obtain⟨t,rfl⟩:=e;exact PySem.W.kia_one PySem.W.kitx_int I.kIn True.intro (cU X.K (.inr (.inr (.inl rfl))) c) (λz=>nomatch z) fin
 .cases b;cases jM d;obtain⟨t,rfl⟩:=e;exact PySem.W.kia_one PySem.W.kitx_str I.kIn True.intro (cU X.K (.inr (.inr (.inr (.inl rfl)))) c) (λz=>nomatch z) fin
 .cases b;refine(bF d).c λa vs F m l=>?_;subst F;cases e;refine(I.tuple m).b λk p p1 _=>?_;refine p1.b λo i j _=>?_;exact PySem.W.kia_one PySem.W.kitx_tuple I.kIn (Z3 o i j) (cU X.K (.inr (.inr (.inr (.inr (.inl rfl))))) c) (λz=>nomatch z) fin
 .cases b
 .cases b
 .cases z:jO S r with
  |none=>rw[z]at b;cases b
  |some ds=>
   rw[z]at b;cases b;refine(sM rfl v z d).c λa vs G m l=>?_;subst G;cases e;refine(I.list m).b λk p p1 _=>?_;refine p1.isList.b λo i j _=>?_;exact PySem.W.kia_one PySem.W.kitx_list I.kIn (Z3 o i j) (cU X.K (.inr (.inr (.inr (.inr (.inr rfl))))) c) (λz=>nomatch z) fin
def Yq:pF X W ↑71 BM:=by
 intro j vs α S H Q b d a;unfold BM at a;split at a
 .split at a
  .rename_i t c;split at a
   .rename_i e;refine(Tu d).c λv u k h i=>?_;subst k;cases Gq i;exact WW (α) S _ v t _ ⟨rfl,b,h,c,e,Post.val a b (wN _)⟩
   .exact a.elim
  .exact a.elim
 .exact a.elim
def kG(s:List Er)(S:Sto):R Er:=match s with
 |[r]=>match r with
  |.val (.tup ds)=>.ok (.val (.tup ds)) S
  |_=>match jO S r with |some ds=>.ok (.val (.tup ds)) S|none=>.no
 |_=>.no
def Hq:pF X W ↑63 kG:=by
 intro m vs α S H Q i d b;unfold kG at b;split at b;split at b
 .refine(rS d).a λv r h=>?_;subst r;refine(bF h).c λa j g c l=>?_;subst g;exact YS a j rfl (.inr ⟨c,Post.val b i (eO c l)⟩)
 .split at b
  .rename_i n e;refine(rS d).a λv o h=>?_;subst o;refine(sM rfl i e h).c λa j q c l=>?_;subst q;exact YS a j rfl (.inl ⟨c,λp k=>Post.newt b i k l⟩)
  .exact b.elim
 .exact b.elim
def SU:List Er->Sto->R Er
 |[r],S=>match itemsOf S r with |some ds=>.ok (.new ds) S|none=>.no
 |_,_=>.no
def Pf:pF X W (λxs H Q=> ∃p ys,xs=[.ref p]/\(SqL X.K H p ys\/SqT X.K H p ys)/\ ∀l,H l=none->Q (.ref l) (xV H l (.lst ys))) SU:=by
 intro m vs α S H Q c d b;unfold SU at b;split at b
 .split at b
  .rename_i n e;refine(rS d).a λv g h=>?_;subst g;refine(BK c e h).c λa k o i l=>?_;subst o;exact Z0 a k rfl i (λp j=>Post.newl b c j l)
  .exact b.elim
 .exact b.elim
def Hr:bootBuiltins "len"=some (.builtin "len"):=by decide+kernel
def Yr:bootBuiltins "abs"=some (.builtin "abs"):=by decide+kernel
def Ys:bootBuiltins "all"=some (.builtin "all"):=by decide+kernel
def vI:bootBuiltins "isinstance"=some (.builtin "isinstance"):=by decide+kernel
def Yt:bootBuiltins "int"=some (.type "int"):=by decide+kernel
def Pg:bootBuiltins "bool"=some (.type "bool"):=by decide+kernel
def Yu:bootBuiltins "str"=some (.type "str"):=by decide+kernel
def SV:bootBuiltins "tuple"=some (.type "tuple"):=by decide+kernel
def BN:bootBuiltins "list"=some (.type "list"):=by decide+kernel
end
section
variable{X:Cx}{a o:Expr}{es:Q0}{g h:AX}{pos apos:Pos}
def kH(p:Er)(S:Sto):Bool:=(jO S p).isSome
def Hs:TyM X "list" kH:=by
 intro p x α S H b d h;unfold kH at h
 cases z:jO S p with
 |none=>rw[z]at h;cases h
 |some ds=>
  refine(sM rfl b z d).c λa vs a s l=>?_;subst a;exact .inl ⟨rfl,vs,s⟩
def strIdx(x y:Db):Option Nat:=(Builtin.Str.occurrences (bC x) (bC y) 0 (bC x).length 1).head?
noncomputable def Cu(p:Er)(S:Sto)(G:List MV->Option (List MV)):R Er:=match p with
 |.val (.loc l)=>match S[l]? with
  |some (.lst ds)=>match G ds with
   |some es=>.ok (.val .non) (S.set l (.lst es))
   |none=>.no
  |_=>.no
 |_=>.no
def Cv(d:↑27)(m:Ext α0 H0 α H)(s:DenX X.K α H p x)(b:Post X.g W α0 H0 (Cu p S G) Q):
  ∃a vs ds es,x=.ref a/\H a=some (.lst vs)/\DenL X.K α H ds vs/\G ds=some es/\ ∀us,DenL X.K α H es us->Q .non (xV H a (.lst us)):=by
 unfold Cu at b;split at b
 .rename_i l;refine(iA s).a λa u h=>?_;subst u;refine(d.of h).a λq j k=>?_;rw[j]at b
  cases q with
  |lst ds=>
   refine k.a λvs c r=>?_;have b:Post X.g W α0 H0 (match G ds with |some es=>R.ok _ _|none=>R.no) Q:=b;split at b
   .rename_i es n;refine YQ a vs ds es ⟨rfl,c,r,n,λus i=>?_⟩;have e:=d.writex h (Lz c) (o:=.lst us);exact(b.shift (m.trans e)).val (d.write h (Lz c) (Z3 us zO (i.ext e))) uF
   .exact b.elim
  |dic _=>exact b.elim
  |ins _ _=>exact b.elim
  |rcd _ _=>exact b.elim
  |fdc _=>exact b.elim
 .exact b.elim
def oF:Er->List Er->Sto->R Er
 |p,[r],S=>(kE r S).bind λy j=>Cu p j λds=>if ds.length<sizeLine then some (ds++[y])else none
 |_,_,_=>.no
def Cw:SK X W YX oF:=by
 intro p u x vs α S B H Q h C w I j b
 match u,j,b with
 |[],_,b=>exact b.elim
 |_::_::_,_,b=>exact b.elim
 |[r],j,b=>
  cases j with
  |cons d n l=>
   cases l;refine(cT C w d).i λJ L α' F q E v A=>?_;have b:Post X.g W h B ((kE r S).bind λy z=>Cu p z λe=>if e.length<sizeLine then some _ else none) Q:=b;rw[F]at b
   have i:DenX X.K α' H p x:=by
    cases p with
    |val m=>exact Den.ex0 E I
    |new e=>exact b.elim
   refine(Cv v q i b).o λa G e es y s o c k=>?_;subst y;split at c
   .rename_i D;cases c;exact XV a G _ rfl rfl s (by rw[o.length];exact D) (k _ (o.append (zQ A zZ)))
   .cases c
def Cy(k:zI X W a f)(w:↑59)
  (hbase:attributeBase a "append" X.env (eval a X.env)=eval a X.env:=by rfl)
  (hfew:((backTo pos ↑38).all (λx=>!x.1)&&(backToKw pos ↑48).all (λx=>x.1.isSome)
   &&decide ↑3)=true:=by rfl)
  (hline:↑29=true:=by rfl) (hs:q8 X e es:=by rfl) (hplain:q9 X pos es:=by rfl):
  zI X W (.Call (.Attribute a "append" apos) (e::es) [] pos) (λm S=>(f m S).bind λp j=>if kH p j=true then(af m j).bind λrs S2=>oF p rs S2 else .no):=
 ZC PySem.F.plainAttrs_list PySem.F.slot_list_append PySem.F.type_list_append (by
   intro pins s σ H x vs v C Q I o i h;refine V0 λG=>?_;refine h.i λl xs y g D c B q=>?_;subst g;subst D;subst o;refine i.one.a λu E d=>?_;subst E;obtain⟨z,b,n,r,A,e⟩:=I.lstM c;refine G ?_;refine call_meets F.slot_list_append ⟨_,e,rfl⟩ F.entry_list_append (F.args_list_append_2 _ _) (PySem.list_append l b.toArray n u (by rw[sA0];lia)) ⟨e,?_⟩;refine Z0 .non _ (I.lset c e (by simp) (r.append (.cons d .nil)) ?_) rfl q;refine qq lA (qq lS ?_)
   lia) Cw Hs k w hbase hfew hline hs hplain
def LZ(p q:Er)(d:MV)(a:Rho)(S:Sto):R Rho:=match p,q with
 |.val (.loc l),.val (.int k)=>match S[l]? with
  |some (.lst ds)=>match NW ds.length k with
   |some j=>.ok a (S.set l (.lst (ds.set j d)))
   |none=>.no
  |_=>.no
 |_,_=>.no
def Yv(c:zI X W o f)(hi:zI X W i g)
  (ha: ∀v,assign (.Subscript o i pos) X.env v=(do
   let B <-holding [v] (eval o X.env);let G <-holding [v,B] (eval i X.env)
   standAt pos
   holding [v,B,G] (setItem B G v)
   release [v,B,G] []):=by intro _;rfl):Cj X W (.Subscript o i pos) (λd m S=>(f m S).bind λp L=>(g m L).bind λq S2=>LZ p q d m S2):=by
 refine c.a λto c Y=>?_;refine hi.a λti hi fi=>?_;refine Z3 _ (VZ c hi (show Mo X V1 by
   intro pins s σ H o i v B G u Q I ro ri rv h;refine h.o λp xs k j V ac N hj q=>?_;subst V;subst ac;cases ro;obtain⟨t,rfl⟩:=ri;refine(I.lst N).c λz n r c hz=>?_;refine(NY hj).h λw O e P=>?_;have F:=r.length;have hn:=DS
   have T:Inv X pins σ _ {s with heap:=s.heap.update p _}:=
    I.lstUpd N c (WK z n j u) (r.set rv j) (by rw[ċ];exact hz) s.toks
   by_cases M:0<=k
   .have K:=by rw[seqIndex_of M P]at w;exact ä w
    exact PySem.W.ki_setAt c M #[0] (by rw[sA0, <-F];exact P) (by rw[K];exact⟨_,T,q⟩)
   .have K:(k+(z.toArray.size:Int)).toNat=j:=by rw[seqIndex_neg #[0] e]at w;rw[sA0, <-F];exact ä w
    exact PySem.W.ki_setBack c #[0] (by rw[sA0, <-F];exact e) #[0] (by rw[K];exact⟨_,T,q⟩)) ha) (λα m S σ H d v Q wd sl de q=>Y α m S σ H _ wd sl (q.bind λu p L D H1 e1 A w1 Z q1=>fi D m L σ H1 _ w1 (sl.ext A) ((q1.shift A).bind λu2 p2 S2 y H2 e2 C E d2 b=>?_)))
 replace b:=b.shift C
 unfold LZ at b;split at b
 .rename_i l k;refine(iA (DenX.ext C Z.1)).a λa ad h=>?_;subst ad;cases yM d2.1;refine(E.of h).a λob w O=>?_;rw[w]at b
  cases ob with
  |lst ds=>
   refine O.a λvs e U=>?_;have b:Post X.g W y H2 (match NW ds.length k with |some j=>R.ok m _|none=>R.no) Q:=b;split at b
   .rename_i j ej;have J:=E.writex h (Lz e) (o:=.lst (vs.set j v));exact YQ a vs k j ⟨rfl,rfl,e,by rw[U.length];exact ej,b σ y _ J (E.write h (Lz e) (Z3 _ zO ((U.set ((de.ext A).ext C) j).ext J))) (((sl.ext A).ext C).ext J)⟩
   .exact b.elim
  |dic _=>exact b.elim
  |ins _ _=>exact b.elim
  |rcd _ _=>exact b.elim
  |fdc _=>exact b.elim
 .exact b.elim
end
def _root_.L2.Inv.turnedL{fp:B9}(I:↑2)(k: ∀b o,b∉fp->s.heap.get? b=some o->h'.get? b=some o)
  (hf: ∀b∈fp,pZ X pins H b):Inv X pins σ H {s with heap:=h',toks:=t'}:=by
 have d: ∀b u,H b=some u->b∉fp:=λb u e z=>by rw[(hf b z).1]at e;cases e
 refine I.step (λb h=>⟨(hf b h).2.2.2.1,(hf b h).2.1,(hf b h).2.2.2.2.1,(hf b h).2.2.2.2.2⟩) (λb o _ _ a e _=>k b o a e) (λb o _ _ a e _=>⟨_,k b o a e⟩) (λ_ _ _ _ n=>n)
  (λb o a e=>⟨o,k b o a e⟩) (λ_ _ e=>e) (λ_ _ _ e=>e) (λb ps e=>⟨#[],by rw[e];simp⟩) (λm hm=>?_) (λb u e=>?_) I.bare
 .refine hm.g λo es i g=>g.elim λj r=>?_;exact XE o es i (k _ o (λz=>(hf _ z).2.1 rfl) j) r
 .refine(I.hok b u e).stay (λc v a q=>k c v ?_ q) (λ_ q=>q) λ_ _ q=>q;rcases a with z|z
  .rw[z];exact d b u e
  .exact d c _ z
def IsSub(k:Bool)(h:Heap)(a l:Addr)(i:Nat):Prop:=if k=true then h.IsListIter a l i else h.IsTupleIter a l i
def IsSeq(k:Bool)(h:Heap)(l:Addr)(a:B0):Prop:=if k=true then h.IsList l a else h.IsTuple l a
noncomputable def AB(k:Bool)(l:Addr):Obj:={cls:=.type (if k=true then "list_iterator" else "tuple_iterator"),data:=.fields #[.ref l,.int 0 0]}
def IsSub.mk'(e:h.get? it=some (AB k l)):IsSub k h it l 0:=by
 cases k with
 |true=>exact ZB _ e rfl rfl
 |false=>exact ZB _ e rfl rfl
def IsSub.there(x:IsSub k h it l i): ∃o,h.get? it=some o/\ ∀v,o.data≠.cell v:=by
 cases k with
 |true=>obtain⟨o,e,_,d⟩:=(x:h.IsListIter it l i);exact⟨o,e,λv z=>by rw[d]at z;cases z⟩
 |false=>obtain⟨o,e,_,d⟩:=(x:h.IsTupleIter it l i);exact⟨o,e,λv z=>by rw[d]at z;cases z⟩
def IsSub.move(x:IsSub k h it l i)(f: ∀o,h.get? it=some o->h'.get? it=some o):IsSub k h' it l i:=by
 cases k with
 |true=>refine(x:h.IsListIter it l i).a λo e r=>?_;exact Z3 o (f o e) r
 |false=>refine(x:h.IsTupleIter it l i).a λo e r=>?_;exact Z3 o (f o e) r
def IsSeq.move(x:IsSeq k h l its)(f: ∀o,h.get? l=some o->h'.get? l=some o):IsSeq k h' l its:=by
 cases k with
 |true=>refine(x:h.IsList l its).a λo e r=>?_;exact Z3 o (f o e) r
 |false=>refine(x:h.IsTuple l its).a λo e r=>?_;exact Z3 o (f o e) r
section
def sN(a:IsSeq k s.heap l its)(h:Q (.ref ↑0) {s with heap:=s.heap.push (AB k l)}):wpAny ↑6 A (pyIter (.ref l)) Q E s:=by
 cases k with
 |true=>exact ļ a h
 |false=>exact wpAny_pyIter_tuple a h
def iD(b:IsSub k s.heap it l i)(j:IsSeq k s.heap l its)(m:its[i]? =some x)
  (hQ: ∀h',IsSub k h' it l (i+1)->Heap.SameBut it s.heap h'->Q x {s with heap:=h'}):wpAny ↑6 A (Builtin.SmallTypes.nextOf (.ref it)) Q E s:=by
 cases k with
 |true=>exact wpAny_nextOf_list_item b j m hQ
 |false=>
  rw[20];have a:=b;refine(id a).b λo d n c=>?_;obtain⟨p,e,_,nl,h⟩:=(j:s.heap.IsTuple l its)
  refine g ?_;refine wB (í a.typeIs Ĺ (ë Ĺ a.typeIs F.entry_tuple_iterator_next ?_ (F.args_tuple_iterator_next_1 _)));show wpAny _ _ (field _ 0 >>= _) _ _ s;refine wB (ò d c rfl ?_);refine wB (ò d c rfl ?_);refine wB (ĕ e h ?_);simp only[Ĉ,m];refine wB (Ń d c (by simp) (wP (Z3 x rfl (wP (hQ _ ?_ (č ..))))));exact ZB _ (ķ _ d (Obj.isFreed_of_fields (Ķ c _))) ((Obj.cls_mapFields ..).trans n) (by rw[Ķ c];simp[rawInt])
def BO(d:↑70)(b:IsSub k s.heap it l i)(n:IsSeq k s.heap l its)(p:its[i]? =none)
  (hE: ∀h' e,Heap.ExtBut it s.heap h'->(∃o,h'.get? e=some o/\o.cls=.type "StopIteration")->E (.ref e) {s with heap:=h'}):wpAny ↑6 A (Builtin.SmallTypes.nextOf (.ref it)) Q E s:=by
 cases k with
 |true=>exact wpAny_nextOf_list_end d b n p hE
 |false=>
  rw[20];have a:=b;refine(id a).b λo m q c=>?_;obtain⟨r,h,_,nl,j⟩:=(n:s.heap.IsTuple l its)
  refine g ?_;refine wB (í a.typeIs Ĺ (ë Ĺ a.typeIs F.entry_tuple_iterator_next ?_ (F.args_tuple_iterator_next_1 _)));show wpAny _ _ (field _ 0 >>= _) _ _ s;refine wB (ò m c (x:=.ref l) rfl ?_);refine wB (ò m c rfl ?_);refine wB (ĕ h j ?_);simp only[Ĉ,p];refine wB (Ğ (wB (Ń m c (by simp) ?_)));refine wB ?_;refine wB (ü ?_ (by size_fits));refine wB (wpAny_of_eq (by first |rfl|(simp only[firstArgMember];rfl)) ?_);refine ü ?_ (by size_fits);simp only[raiseNew];refine wB (wpAny_handled ?_)
  first |rw[show A.in1.handled=none from d]|rw[d]
  refine wB (wP (wpAny_throw ?_));exact hE _ _ (((č ..).extBut.push _).push _) (Z3 _ (á _ rfl) rfl)
end
structure ZipSt(k1 k2:Bool)(z TI TO i1 i2 l1 l2:Addr)(i:Nat)(h:Heap):Prop where
 z:IsZip h z TI TO .none
 ti:IsPair h TI (.ref i1) (.ref i2)
 to: ∃a b,IsPair h TO a b
 s1:IsSub k1 h i1 l1 i
 s2:IsSub k2 h i2 l2 i
structure Apart5(z TI TO i1 i2:Addr):Prop where
 TIz:TI≠z
 TOz:TO≠z
 i1z:i1≠z
 i2z:i2≠z
 TITO:TI≠TO
 TIi1:TI≠i1
 TIi2:TI≠i2
 TOi1:TO≠i1
 TOi2:TO≠i2
 i12:i1≠i2
section
variable{prog:ŕ}{w:World}{A:Around}{s:œ}{TI TO:Addr}
def Off(l z TO a b:Addr):Prop:=l≠z/\l≠TO/\l≠a/\l≠b
def SW{Q:VP}(D:↑60)(o1:Off l1 z TO i1 i2)(o2:Off l2 z TO i1 i2)(st:ZipSt k1 k2 z TI TO i1 i2 l1 l2 i s.heap)(O:IsSeq k1 s.heap l1 xs)(aa:IsSeq k2 s.heap l2 ys)(hx:xs[i]? =some x)(hy:ys[i]? =some y)
  (hQ: ∀h',IsZip h' z TI TO (rawInt ↑0)->IsPair h' TO x y->IsSub k1 h' i1 l1 (i+1)->IsSub k2 h' i2 l2 (i+1)->IsPair h' ↑0 x y->
   ↑22->Q (.ref ↑0) {s with heap:=h'}):
  wpAny ↑6 A (Builtin.«zip.__next__» ⟨[.ref z],[]⟩) (λfin s'=> ∃v,fin=.done (.ret v)/\Q v s') E s:=by
 obtain⟨G,Z,⟨a,b,T⟩,h1,h2⟩:=st;show wpAny _ _ (field (.ref z) 2 >>= _) _ _ _;refine wB (ò G rfl rfl ?_);rw[25];refine wB (ò G rfl rfl (wB (ĕ Z rfl ?_)));rw[25];refine wB ?_;unfold Builtin.SmallTypes.ownedTupleIsFree;refine wB (ò G rfl (x:=.none) rfl (wP ?_));simp only[if_true];refine wB (Ğ (wB (ò G rfl rfl (wB (ö G (by simp) λha r h=>?_)))))
 replace r:IsZip ha z TI TO .ellipsis:=r
 refine wB ?_;simp only[zipIdx_cons,zipIdx_nil,forIn_cons,forIn_nil];refine wB (wB (wpAny_onRaise ?_));rw[25];refine wB (iD (h1.move λo e=>h.extBut _ _ D.i1z e) (O.move λo e=>h.extBut _ _ o1.1 e) hx λhb X m=>wP ?_);have H:IsPair hb TO a b:=m.extBut _ _ D.TOi1 (h.extBut _ _ D.TOz T);refine wB (ĕ H rfl (wB (wpAny_updateSeq_pair H λhc u k=>wB (wpAny_letGo (wP ?_)))))
 replace u:IsPair hc TO x b:=u
 refine wB (wB (wpAny_onRaise ?_));rw[25];have W: ∀c o,c≠z->c≠TO->c≠i1->s.heap.get? c=some o->hc.get? c=some o:=λc o Y N n3 e=>k.extBut _ _ N (m.extBut _ _ n3 (h.extBut _ _ Y e));refine wB (iD (h2.move λo e=>W _ o D.i2z D.TOi2.symm D.i12.symm e) (aa.move λo e=>W _ o o2.1 o2.2.1 o2.2.2.1 e) hy λhd U d=>wP ?_);have J:IsPair hd TO x b:=d.extBut _ _ D.TOi2 u;refine wB (ĕ J rfl (wB (wpAny_updateSeq_pair J λB p j=>wB (wpAny_letGo (wP (wP ?_))))))
 replace p:IsPair B TO x y:=p
 refine wB (ĕ p rfl (wB (wpAny_newTuple ?_)));have C:B.objs.size=s.heap.objs.size:=by rw[j.1,d.1,k.1,m.1,h.1]
 have ze:IsZip B z TI TO .ellipsis:=j.extBut _ _ D.TOz.symm (d.extBut _ _ D.i2z.symm (k.extBut _ _ D.TOz.symm (m.extBut _ _ D.i1z.symm r)));have q:z<B.objs.size:=ã ze;rw[25];refine wB ?_;unfold Builtin.SmallTypes.ownedTupleHandOut;refine wB (ö (hP0 _ ze) (by simp) λP S K=>?_)
 replace S:IsZip P z TI TO _:=S
 refine ö S (by simp) λn L F=>?_
 replace L:IsZip n z TI TO _:=L
 have M: ∀c o,c≠z->B.get? c=some o->n.get? c=some o:=λc o I e=>F.extBut _ _ I (K.extBut _ _ I (hP0 _ e));have tT:IsPair n B.objs.size x y:=F.extBut _ _ (ú q) (K.extBut _ _ (ú q) (á _ rfl));rw[C]at L tT;refine wP ⟨_,rfl,?_⟩;show Q _ _;rw[C];exact hQ n L (M _ _ D.TOz p) ((X.move λo e=>j.extBut _ _ D.TOi1.symm (d.extBut _ _ D.i12 (k.extBut _ _ D.TOi1.symm e))).move λo e=>M _ o D.i1z e) ((U.move λo e=>j.extBut _ _ D.TOi2.symm e).move λo e=>M _ o D.i2z e) tT λc o I c2 c3 c4 e=>M c o I ((λc o Y N n3 n4 e=>j.extBut _ _ N (d.extBut _ _ n4 (W c o Y N n3 e))) c o I c2 c3 c4 e)
def ZL(X:↑70)(D:↑60)(Y:Off l1 z TO i1 i2)(P:Off l2 z TO i1 i2)(st:ZipSt k1 k2 z TI TO i1 i2 l1 l2 i s.heap)(p:IsSeq k1 s.heap l1 xs)(U:IsSeq k2 s.heap l2 ys)(H:xs[i]? =none\/ys[i]? =none)
  (hE: ∀h' e,↑22->(∃o,h'.get? e=some o/\o.cls=.type "StopIteration")->E (.ref e) {s with heap:=h'}):
  wpAny ↑6 A (Builtin.«zip.__next__» ⟨[.ref z],[]⟩) Q E s:=by
 obtain⟨y,N,⟨a,b,K⟩,W,h2⟩:=st;rw[32];refine wB (ò y rfl rfl ?_);rw[25];refine wB (ò y rfl rfl (wB (ĕ N rfl ?_)));refine wB ?_;refine wB (ò y rfl rfl (wP ?_));refine wB (Ğ (wB (ò y rfl rfl (wB (ö y (by simp) λha u j=>?_)))));refine wB ?_;refine wB (wB (wpAny_onRaise ?_))
 cases I:xs[i]? with
 |none=>
  refine wB (BO X (W.move λo e=>j.extBut _ _ D.i1z e) (p.move λo e=>j.extBut _ _ Y.1 e) I λhb e k S=>?_);refine S.a λL d m=>?_;have C:=k _ _ D.i1z.symm u;exact ö C (by simp) λO _ n=>hE O e (λc o B _ T _ q=>n.extBut _ _ B (k _ _ T (j.extBut _ _ B q))) (Z3 L (n.extBut _ _ (λq=>by cases q;rw[C]at d;cases d;simp at m) d) m)
 |some x=>
  refine wB (iD (W.move λo e=>j.extBut _ _ D.i1z e) (p.move λo e=>j.extBut _ _ Y.1 e) I λhb aa k=>wP ?_);have v:=k.extBut _ _ D.TOi1 (j.extBut _ _ D.TOz K);refine wB (ĕ v rfl (wB (wpAny_updateSeq_pair v λO ab n=>wB (wpAny_letGo (wP ?_)))));refine wB (wB (wpAny_onRaise ?_));have M: ∀c o,c≠z->c≠TO->c≠i1->s.heap.get? c=some o->O.get? c=some o:=λc o n1 n2 n3 e=>n.extBut _ _ n2 (k.extBut _ _ n3 (j.extBut _ _ n1 e));refine wB (BO X (h2.move λo e=>M _ o D.i2z D.TOi2.symm D.i12.symm e) (U.move λo e=>M _ o P.1 P.2.1 P.2.2.1 e) (by rcases H with h|h;(rw[I]at h;cases h);exact h) λhd e r S=>?_);refine S.a λL d m=>?_;have F:=r _ _ D.i2z.symm (n.extBut _ _ D.TOz.symm (k.extBut _ _ D.i1z.symm u));exact ö F (by simp) λJ _ G=>hE J e (λc o B c2 T Z q=>G.extBut _ _ B (r _ _ Z (M c o B c2 T q))) (Z3 L (G.extBut _ _ (λq=>by cases q;rw[F]at d;cases d;simp at m) d) m)
def SX(i:IsSeq k1 s.heap l1 xs)(j:IsSeq k2 s.heap l2 ys)
  (h: ∀h',ZipSt k1 k2 (↑0+4) (↑0+2) (↑0+3) ↑0 (↑0+1) l1 l2 0 h'->(∀c o,s.heap.get? c=some o->h'.get? c=some o)->Q (.ref (↑0+4)) {s with heap:=h'}):
  wpAny ↑6 A (call (.type "zip") [.ref l1,.ref l2]) Q E s:=by
 refine callType_new F.called_zip ↑11 (F.typeCall_zip_2 _ _) (F.newCall_zip_2 _ _) (λp=>F.args_object_init_3 p _ _) F.entry_zip_new ((show Meets (Builtin.«zip.__new__» ⟨[.type "zip",.ref l1,.ref l2],[]⟩) (λ_ R s=>IsSeq k1 s.heap l1 xs/\IsSeq k2 s.heap l2 ys/\
   R (.ok (.ret (.ref (↑0+4)))) {s with heap:=((((s.heap.push (AB k1 l1)).push (AB k2 l2)).push {cls:=.type "tuple",data:=.seq #[.ref ↑0,.ref (↑0+1)]}).push {cls:=.type "tuple",data:=.seq #[.none,.none]}).push {cls:=.type "zip",data:=.fields #[.none,.bool false,.bool false,.ref (↑0+2),.ref (↑0+3)]}}) from .of_wp λprog w A R s h=>by
    obtain⟨z,g,d,r,v⟩:=s;refine h.e λi j h=>?_;have q:=sub_zip;have m:IsSeq k2 (Shared.heap ⟨z.push (AB k1 l1),g,d,r,v⟩) l2 ys:=j.move λo e=>hP0 _ e;have b: ∀(h:Heap)(o:Obj),(h.push o).objs.size=h.objs.size+1:=λh o=>Ĕ ..;simp only[b]at h ⊢
    wp_walk using sN i,sN m
    exact⟨_,rfl,by simp only[b];exact h⟩)) ⟨i,j,?_⟩;have b: ∀(h:Heap)(o:Obj),(h.push o).objs.size=h.objs.size+1:=λh o=>Ĕ ..;have k: ∀(h:Heap)(o:Obj)(n:Nat),o.isFreed=false->h.objs.size=n->(h.push o).get? n=some o:=λh o n y e=>by subst e;exact á _ y
 have a: ∀(h:Heap)(o u:Obj)(n:Nat),h.get? n=some u->(h.push o).get? n=some u:=λh o u n e=>hP0 _ e;refine⟨(Z3 _ (k _ _ _ rfl (by simp only[b])) rfl),h _ ⟨k _ _ _ rfl (by simp only[b]),a _ _ _ _ (a _ _ _ _ (k _ _ _ rfl (by simp only[b]))),(Yk .none .none (a _ _ _ _ (k _ _ _ rfl (by simp only[b])))),?_,?_⟩ λc o e=>a _ _ _ _ (a _ _ _ _ (a _ _ _ _ (a _ _ _ _ (a _ _ _ _ e))))⟩
 .exact IsSub.mk' (a _ _ _ _ (a _ _ _ _ (a _ _ _ _ (a _ _ _ _ (k _ _ _ rfl rfl)))))
 .exact IsSub.mk' (a _ _ _ _ (a _ _ _ _ (a _ _ _ _ (k _ _ _ rfl (by simp only[b])))))
end
theorem apart_new(n:Nat):Apart5 (n+4) (n+2) (n+3) n (n+1):=by constructor<;>(show(_:Nat)≠_;lia)
def IA(k:Bool)(K:U0)(H:Hp)(a:Addr)(xs:List V):Prop:=if k=true then SqL K H a xs else SqT K H a xs
noncomputable def Itz(K:U0)(a d:Bool)(b c:Addr):It:=
 ⟨λi H=> ∃xs ys x y,IA a K H b xs/\IA d K H c ys/\xs[i]? =some x/\ys[i]? =some y,
   λi H v H'=> ∃p x y,H p=none/\v=.ref p/\H'=xV H p (.tup [x,y])/\(∀xs,IA a K H b xs->xs[i]? =some x)/\ ∀ys,IA d K H c ys->ys[i]? =some y,
   λi H=> ∃xs ys,IA a K H b xs/\IA d K H c ys/\(↑8<=i\/↑40<=i)⟩
section
def _root_.L2.Inv.seqK(I:↑2)(h:IA k X.K H a xs): ∃j:List Ŕ,Vals xs j/\IsSeq k s.heap a j.toArray/\↑8<=sizeLine:=by
 cases k with
 |true=>refine(I.list h).b λj r p z=>?_;exact ZB j r p.isList z
 |false=>refine(I.tuple h).b λj r p z=>?_;exact ZB j r p z
def _root_.L2.Inv.seqK_inj(I:↑2)(h:IA k X.K H a xs)(h':IA k X.K H a ys):xs=ys:=by
 cases k with
 |true=>exact I.list_inj h h'
 |false=>exact I.tuple_inj h h'
def mG(I:↑2)(h:IA k X.K H l xs)(a:pZ X pins H b):l≠b:=by
 rintro rfl
 have d: ∀o,X.K.lookup l=some o->False:=λo e=>by
  have c:=I.mod.kin l o e;rcases a.2.2.2.1 with z|z
  .exact I.ok.noex l o c z
  .exact absurd (ç (ã c) (ô I.ok.bsz z)) (ĵ _)
 cases k with
 |true=>
  rcases (h:SqL X.K H l xs)with(h|⟨o,h⟩)|⟨o,its,n,h,_⟩
  .rw[a.1]at h;cases h
  .rw[a.1]at h;cases h
  .exact d o h
 |false=>
  rcases (h:SqT X.K H l xs)with(h|⟨o,h⟩)|⟨o,its,n,h,_⟩
  .rw[a.1]at h;cases h
  .rw[a.1]at h;cases h
  .exact d o h
end
theorem Ht{K:U0}{TI TO i1 i2 l1 l2:Addr}(D:↑60):
  Turn P w K (.Tuple elts kt pt) (Itz K k1 k2 l1 l2) [z,TI,TO,i1,i2] z (λi h=>ZipSt k1 k2 z TI TO i1 i2 l1 l2 i h) where
 mem:=by simp
 obj:=λi h st b hb=>by
  obtain⟨hz,hTI,⟨a,b',hTO⟩,h1,h2⟩:=st;rcases (by simpa using hb)with rfl|rfl|rfl|rfl|rfl
  .exact⟨_,hz,λv q=>by cases q⟩
  .exact⟨_,hTI,λv q=>by cases q⟩
  .exact⟨_,hTO,λv q=>by cases q⟩
  .exact h1.there
  .exact h2.there
 keep:=λi h h' st k=>by obtain⟨hz,hTI,⟨a,b',hTO⟩,h1,h2⟩:=st;exact⟨k z (by simp) _ hz,k TI (by simp) _ hTI,(Yk a b' (k TO (by simp) _ hTO)),h1.move λo e=>k i1 (by simp) o e,h2.move λo e=>k i2 (by simp) o e⟩
 item:=by
  rw[23];subst hP hw hK;refine hg.j λxs ys x y c=>c.h λq1 q2 hx hy=>?_;refine(I.seqK q1).b λits r1 p1 _=>?_;refine(I.seqK q2).b λits2 r2 p2 _=>?_;refine(r1.get hx).a λu hu ru=>?_;refine(r2.get hy).a λv hv rv=>?_;rw[24]
  have hT:s.TypeIs (.ref z) "zip":=(Z3 _ st.z rfl)
  refine wB (Ć (í hT Đ (ë Đ hT ņ
   (SW D (off q1) (off q2) st p1 p2 (by simpa using hu) (by simpa using hv) λh' a1 a2 a3 a4 a5 a6=>wP (Z3 _ rfl ?_)) (Ľ _))))
  refine wpAny_letOwnedTupleGo_zip a1 λh2 z2 sb2=>?_
  have I0:Inv X pins σ _ {s with heap:=s.heap.push {cls:=.type "tuple",data:=.seq #[u,v]}}:=
   I.laid (o:=.tup [x,y]) (λb o e=>hP0 _ e) (à _) ⟨by show 2<=sizeLine;decide,[u,v],.cons ru (.cons rv .nil),⟨_,á _ rfl,rfl,_,rfl⟩⟩
  have lt: ∀b∈[z,TI,TO,i1,i2],b<s.heap.objs.size:=λb hb=>by
   have: ∃o,s.heap.get? b=some o:=by
    obtain⟨hz,hTI,⟨a,b',hTO⟩,g1,g2⟩:=st;rcases (by simpa using hb)with rfl|rfl|rfl|rfl|rfl
    .exact⟨_,hz⟩
    .exact⟨_,hTI⟩
    .exact⟨_,hTO⟩
    .obtain⟨o,e,_⟩:=g1.there;exact⟨o,e⟩
    .obtain⟨o,e,_⟩:=g2.there;exact⟨o,e⟩
   obtain⟨o,e⟩:=this;exact ã e
  have fr: ∀b∈[z,TI,TO,i1,i2],xV H ↑0 (.tup [x,y]) b=none:=λb hb=>by rw[zH (é (lt b hb))];exact(hf b hb).1
  have zne:=ú (lt z (by simp))
  have mv: ∀b o,b∉[z,TI,TO,i1,i2]->(s.heap.push {cls:=.type "tuple",data:=.seq #[u,v]}).get? b=some o->h2.get? b=some o:=λb o hb e=>by
   simp only[mC,nM,or_false,not_or]at hb;refine sb2.extBut _ _ hb.1 ?_;by_cases hbs:b=↑0
   .subst hbs;rw[á _ rfl]at e;cases e;exact a5
   .rw[Heap.get?_push_ne _ _ _ hbs]at e;exact a6 b o hb.1 hb.2.2.1 hb.2.2.2.1 hb.2.2.2.2 e
  refine XD (.ref ↑0) _ (I0.turnedL (t':=s.toks) mv λb hb=>let ⟨_,c2,c3,c4,c5,c6⟩:=hf b hb;⟨fr b hb,c2,c3,c4,c5,c6⟩) rfl (XV (↑0) x y ↑25 rfl rfl (λzs hz=>?_) (λzs hz=>?_)) ⟨z2,?_,(Yk u v ?_),?_,?_⟩ fr
  .rw[I.seqK_inj hz q1];exact hx
  .rw[I.seqK_inj hz q2];exact hy
  .exact sb2.extBut _ _ D.TIz (a6 TI _ D.TIz D.TITO D.TIi1 D.TIi2 st.ti)
  .exact sb2.extBut _ _ D.TOz a2
  .exact a3.move λo e=>sb2.extBut _ _ D.i1z e
  .exact a4.move λo e=>sb2.extBut _ _ D.i2z e
 done:=by
  rw[23];subst hP hw hK;refine hg.c λxs ys q1 q2 hx=>?_;refine(I.seqK q1).b λits r1 p1 _=>?_;refine(I.seqK q2).b λits2 r2 p2 _=>?_;rw[24]
  have hT:s.TypeIs (.ref z) "zip":=(Z3 _ st.z rfl)
  have e1:=r1.length;have e2:=r2.length
  refine wB (Ć (í hT Đ (ë Đ hT ņ
   (ZL (I.ok.hd hc) D (off q1) (off q2) st p1 p2 (by rcases hx with h|h;(exact .inl (by simp;lia));exact .inr (by simp;lia)) λh' e hk he=>?_) (Ľ _))))
  refine he.a λo ho hcl=>?_;refine wB (Ě (Z3 o ho hcl) ń (wP ⟨rfl,?_⟩));refine I.turnedL (λb o hb e=>?_) hf;simp only[mC,nM,or_false,not_or]at hb;exact hk b o hb.1 hb.2.2.1 hb.2.2.2.1 hb.2.2.2.2 e
 self:=λ_ _ _ _ _ st h=>wpAny_pyIter_zip st.z h
structure Sr where
 k:Bool
 ds:List MV
 gs:List (Nat×List MV)
noncomputable def srcOf(S:Sto):Er->Option Sr
 |.val (.tup ds)=>some ⟨false,ds,[]⟩
 |.new ds=>some ⟨true,ds,[]⟩
 |.val (.scr ds)=>some ⟨true,ds,[]⟩
 |.val (.loc l)=>match S[l]? with
  |some (.lst ds)=>some ⟨true,ds,[(l,ds)]⟩
  |_=>none
 |_=>none
structure SrcD(X:Cx)(q:Sr)(l:Addr)(P:List Addr->Sto->Hp->Prop):Prop where
 get: ∀α S H,P α S H-> ∃vs,IA q.k X.K H l vs/\DenL X.K α H q.ds vs
 stays: ∀α1 S1 H1 α2 S2 H2,P α1 S1 H1->Ext α1 H1 α2 H2->Wd X.g α2 S2 H2->stay q.gs S2->P α2 S2 H2
 st: ∀α S H,P α S H->stay q.gs S
def AC(F:↑27)(e:srcOf S r=some q)(d:DenX X.K α H r x): ∃l P,x=.ref l/\P α S H/\SrcD X q l P:=by
 unfold srcOf at e;split at e
 .rename_i m;cases e;refine(bF d).c λa vs N s l=>?_;subst N;exact⟨a,λα S H=> ∃vs,_,rfl,⟨vs,s,l⟩,λα S H h=>h,λk u v j y z ⟨vs,c,i⟩ x w _=>(Z3 vs (x.sqT c) (i.ext x)),λ_ _ _ _=>jT⟩
 .rename_i m;cases e;refine d.k λb vs O h n l=>?_;subst O
  exact⟨b,λα S H=> ∃vs,H b=some (.lst vs)/\b∉α/\DenL X.K α H m vs,rfl,(ZB vs h n l),λα S H ⟨vs,c,_,i⟩=>(Z3 vs (SqL.of c:SqL X.K H b vs) i),
   λk u v j y z ⟨vs,c,i,I⟩ x w _=>(ZB vs (x.keep b _ c i) (x.out c i) (I.ext x)),λ_ _ _ _=>jT⟩
 .rename_i m;cases e;refine(HU d).c λa vs Q s l=>?_;subst Q;exact⟨a,λα S H=> ∃vs,SqF X.K H a vs/\DenL X.K α H m vs,rfl,(Z3 vs s l),λα S H ⟨vs,c,i⟩=>(Z3 vs c.l i),λk u v j y z ⟨vs,c,i⟩ x w _=>(Z3 vs (x.sqF c) (i.ext x)),λ_ _ _ _=>jT⟩
 .rename_i n;split at e
  .rename_i m B;cases e;refine(iA d).a λa T h=>?_;subst T;refine(F.obj n a _ h B).a λvs c i=>?_;refine⟨a,λα S H=> ∃vs,H a=some (.lst vs)/\DenL X.K α H m vs/\α[n]? =some a/\S[n]? =some _,rfl,⟨vs,c,i,h,B⟩,λα S H ⟨vs,c,i,_⟩=>(Z3 vs (SqL.of c:SqL X.K H a vs) i),?_,?_⟩
   .intro k u v j y z ⟨vs,L,M,C,A⟩ x w hs;have o:=hs (n,m) (by simp);refine(w.obj n a _ (x.at C) o).a λJ G D=>?_;exact⟨J,G,D,x.at C,o⟩
   .intro α S H ⟨vs,_,_,_,A⟩ p E;have:=by simpa using E
    subst this;exact A
  .cases e
 .cases e
def iZip(K:U0)(h:TA):TI:=λσ H R=>h σ H λvs a=> ∃d e b c,vs=[.ref b,.ref c]/\(∃xs,IA d K a b xs)/\(∃ys,IA e K a c ys)/\R (Itz K d e b c) a
section
variable{a b:Expr}{elts:Q0}{kt:Nat}{pt p pos:Pos}
def Hu:bootBuiltins "zip"=some (.type "zip"):=by decide+kernel
def Yw(m:Gl X "zip")(hm:X.mg "zip"=none)(w:PA X [a,b] ta)(hs:starEach [a,b] X.env=[↑62,(false,eval b X.env)]:=by rfl)(c:starEach [b] X.env=[(false,eval b X.env)]:=by rfl):
  PI X (.Tuple elts kt pt) (.Call (.Name "zip" p) [a,b] [] pos) (iZip X.K ta):=by
 intro pins s σ H R I h;refine Call_ (pY I m hm Hu (Ē (wG (w pos pins s σ H _ I h) λJ j ⟨vs,k,I1,i,A⟩=>?_) (by rw[hs,c]) (by rw[c];rfl)));refine A.j λB D F G g=>g.h λL M N q=>?_;subst L;obtain ⟨xs,n⟩:=M;obtain ⟨ys,u⟩:=N
 cases i with
 |cons r rr=>
  cases rr with
  |cons r' rr=>
   cases rr;cases r;cases r';refine V0 λO=>?_;refine(I1.seqK n).b λv E p1 _=>?_;refine(I1.seqK u).b λe C p2 _=>?_;refine O ?_;refine SX p1 p2 λh' st o=>wpAny_pyIter_zip st.z ?_;refine XL _ _ _ _ k rfl (I1.kept o) (Ht (apart_new _)) st (λb y=>?_) q;have d:j.heap.objs.size<=b:=by rcases (by simpa using y)with h|h|h|h|h<;>rw[h]<;>(first |exact à _|exact ě _ _)
   exact I1.fpOk d (I1.hok.fresh d)
noncomputable def pairs(xs ys:X0):List MV:=List.zipWith (λx y=>.tup [x,y]) xs ys
noncomputable def Yx(rs:List Er)(S:Sto):R Wk:=match rs with
 |[p,q]=>match srcOf S p with
  |some a=>match srcOf S q with
   |some b=>.ok ⟨pairs a.ds b.ds,a.gs++b.gs⟩ S
   |none=>.no
  |none=>.no
 |_=>.no
theorem Yy(hg:Gl X "zip")(hm:X.mg "zip"=none)(L:GF X W [a,b] af)(hs:starEach [a,b] X.env=[↑62,(false,eval b X.env)]:=by rfl)(J:starEach [b] X.env=[(false,eval b X.env)]:=by rfl):
  KC X W (.Tuple elts kt pt) (.Call (.Name "zip" p) [a,b] [] pos) (λG S=>(af G S).bind Yx):=by
 refine L.a λt L k=>?_;refine Z3 _ (Yw hg hm L hs J) (λα G S σ H Rc wd sl q=>k α G S σ H _ wd sl (q.bind λvs rs S1 C H1 e x1 D Z c=>?_))
 replace c:=c.shift x1
 unfold Yx at c;split at c
 .rename_i r1 r2;split at c
  .rename_i U e1;split at c
   .rename_i O e2;refine(Tr Z).c λu v g du dv=>?_;subst g;refine(AC D e1 du).c λl1 P1 u p1 s=>?_;subst u;refine(AC D e2 dv).c λl2 P2 V p2 r=>?_;subst V;refine YQ U.k O.k l1 l2 ⟨rfl,⟨_,(s.get _ _ _ p1).choose_spec.1⟩,⟨_,(r.get _ _ _ p2).choose_spec.1⟩,c.here D ⟨λα S H=>P1 α S H/\P2 α S H,?_,⟨p1,p2⟩,?_,?_⟩⟩
    .intro i B S2 H2 ⟨y,A⟩ N;rw[31];refine(s.get _ _ _ y).a λm K P=>?_;refine(r.get _ _ _ A).a λn E T=>?_;have hl:(pairs U.ds O.ds).length=min m.length n.length:=by unfold pairs;rw[List.length_zipWith,P.length,↑37]
     refine bw ?_;refine⟨λhi=>?_,λhi=>?_⟩
     .have hi:=hi;have F:i<m.length:=by lia
      have h2:i<n.length:=by lia
      refine⟨(YQ m n (m[i]) (n[i]) ⟨K,E,gE F,gE h2⟩),?_⟩;rintro x H' ⟨pp,Q,M,j,rfl,rfl,Y,hy⟩;refine V0 λbx=>?_;refine(P.get (Y m K)).a λd hd dd=>?_;refine(T.get (hy n E)).a λf hf df=>?_;have z:=N.newx (o:=.tup [Q,M]) j;have I:=N.new (o:=.tup [Q,M]) j;refine bx ?_;refine⟨z,I,⟨s.stays _ _ _ _ _ _ y z I (s.st _ _ _ y),r.stays _ _ _ _ _ _ A z I (r.st _ _ _ A)⟩,.tup [d,f],?_,?_⟩
      .unfold pairs;rw[List.getElem?_zipWith,hd,hf]
      .exact eO (.of zO) (zQ (dd.ext z) (zQ (df.ext z) zZ))
     .have hi:=hi;refine Z0 m n K E ?_;by_cases F:m.length<=i
      .exact .inl F
      .exact .inr #[0]
    .intro C S1 H1 B S2 H2 ⟨y,A⟩ x w hs;exact⟨s.stays _ _ _ _ _ _ y x w λp j=>hs p (ă _ j),r.stays _ _ _ _ _ _ A x w λp j=>hs p (õ _ j)⟩
    .intro p j;rcases ê.mp j with h|h
     .exact s.st _ _ _ p1 p h
     .exact r.st _ _ _ p2 p h
   .exact c.elim
  .exact c.elim
 .exact c.elim
end
structure EnSt(k:Bool)(e it l:Addr)(i:Nat)(h:Heap):Prop where
 e: ∃old,IsEnum h e it i old
 s:IsSub k h it l i
section
variable{prog:ŕ}{w:World}{A:Around}{i:Nat}
def Pi{Q:VP}(O:IsEnum s.heap e it i old)(J:IsSub k s.heap it l i)(X:IsSeq k s.heap l its)(Y:its[i]? =some x)(a:e≠it)
  (hQ: ∀h',IsEnumOut h' e it ( i +1) x ↑0->IsSub k h' it l (i+1)->h'.get? ↑0=some {cls:=.type "tuple",data:=.seq #[.int i s.toks,x]}->
   (∀b o,b≠e->b≠it->s.heap.get? b=some o->h'.get? b=some o)->Q (.ref ↑0) {s with heap:=h',toks:=s.toks+1}):
  wpAny ↑6 A (Builtin.«enumerate.__next__» ⟨[.ref e],[]⟩) (λfin s'=> ∃v,fin=.done (.ret v)/\Q v s') E s:=by
 obtain⟨u,g,d,j,Z⟩:=s;rw[32];refine wB (ò O rfl rfl (wB (iD J X Y λha P p=>?_)));have K:=(p.2 e a).trans O;refine wB (ò K rfl rfl ?_);refine wB (ò K rfl rfl ?_);show wpAny _ _ _ _ _ ⟨ha,g,d,j,Z⟩;refine wB (wpAny_mkInt ?_);refine wB (ö K (by simp) λhb F h=>?_)
 replace F:IsEnum hb e it _ old:=F
 refine wB (ö F (by simp) λm C c=>?_)
 replace C:IsEnum m e it _ old:=C
 refine wB (wpAny_newTuple ?_);have r:m.objs.size=u.objs.size:=by rw[c.1,h.1,p.1]
 have B:IsEnum (m.push {cls:=.type "tuple",data:=.seq #[.int i j,x]}) e it _ old:=hP0 _ C;have U:(m.push {cls:=.type "tuple",data:=.seq #[.int i j,x]}).get? u.objs.size=some {cls:=.type "tuple",data:=.seq #[.int i j,x]}:=by rw[<-r];exact á _ rfl
 have kd: ∀b o,b≠e->b≠it->u.get? b=some o->(m.push {cls:=.type "tuple",data:=.seq #[.int i j,x]}).get? b=some o:=λb o y M q=>
  hP0 _ (c.extBut b o y (h.extBut b o y (p.extBut b o M q)))
 have W:IsSub k (m.push {cls:=.type "tuple",data:=.seq #[.int i j,x]}) it l _:=P.move λo q=>hP0 _ (c.extBut _ o (Ne.symm a) (h.extBut _ o (Ne.symm a) q));generalize m.push {cls:=.type "tuple",data:=.seq #[.int i j,x]}=hd at B U kd W ⊢;rw[r];refine wB ?_;refine wB (ò B rfl rfl (wP ?_));refine wB (Ğ (wB (ò B rfl rfl (wB (ö B (by simp) λhf S I=>?_)))))
 replace S:IsEnum hf e it _ x:=S
 refine wB ?_;refine wB (ö S (by simp) λD H T=>?_)
 replace H:IsEnumOut D e it _ x u.objs.size:=H
 refine ö H (by simp) λz N G=>?_
 replace N:IsEnumOut z e it _ x u.objs.size:=N
 have L:=λb o n q=>G.extBut b o n (T.extBut b o n (I.extBut b o n q));exact wB (wpAny_letGo (wP ⟨_,rfl,hQ z N (W.move λo q=>L _ o (Ne.symm a) q) (L _ _ (ú (ã O)) U) λb o y M q=>L b o y (kd b o y M q)⟩))
end
def MA(K:U0)(F:↑21):Sp:=λvs H Q _=> ∃a,DenL K [] H a vs/\↑67=1/\ ∀g:Gm,g.K=K->Post g W0 [] H (F a []) Q
def Hv: ∀vs H Q E,MA g.K F vs H Q E->VW g 1 F vs H Q E:=λvs H Q E ⟨b,l,c,q⟩=>(YR ([]) ([]) b ⟨⟨rfl,by simp,λl a o h=>by simp at h⟩,l,c,q g rfl⟩)
def Yz{K:U0}(b:Gf H)(h:SqL K H a xs):SqF K H a xs:=by
 rcases h with(h|⟨o,h⟩)|h
 .rcases b a with z|⟨o,ys,z⟩
  .rw[z]at h;cases h
  .rw[z]at h;cases h
 .exact .inl ⟨o,h⟩
 .exact .inr h
theorem bB(b)(S)(k:β->Sto->R γ):(R.ok b S).bind k=k b S:=by exact Eq.trans (R.bind_ok b S k) rfl
theorem Pj(d)(S):Nt (some (some d)) S=.ok (.val d) S:=rfl
theorem sO:SO S (S++T):=⟨by rw[lA];lia,λl a=>.inl (â a)⟩
def DZ(n)(i):lo n (.int i):=by unfold lo;trivial
def WY(n)(i):lo n (.str i):=by unfold lo;trivial
def Hx(n)(i):lo n (.bl i):=by unfold lo;trivial
def WZ(n):lo n .non:=by unfold lo;trivial
def XA(h:AW n ds):lo n (.tup ds):=by unfold lo;exact h
theorem aM: ∀{ds},(∀d∈ds,lo n d)->AW n ds
 |[],_=>by unfold AW;trivial
 |d::ds,h=>by unfold AW;exact⟨h d mF0,aM λe j=>h e (mO _ j)⟩
def pG(hn:↑58=n)(a:F (zG rs S).1 (zG rs S).2=.ok (.val d) (S++T))(h:lo ↑1 d)(b: ∀l,d≠.loc l):zE n F rs S=.ok (.val d) S:=by unfold zE;refine qq (iP hn) (qq a ?_);exact (show jL S (.val d) (S++T)=.ok (.val d) S by
  unfold jL;rw[iP sO];have e:(S++T).take ↑1=S:=by simp
  cases d with
  |loc l=>exact absurd rfl (b l)
  |_=>dsimp only;exact qq (iP h) (qq e rfl))
def BP(hn:↑58=n)(a:F (zG rs S).1 (zG rs S).2=.ok (.new ds) (S++T))(h:AW ↑1 ds):zE n F rs S=.ok (.new ds) S:=by unfold zE;rw[iP hn,a];exact (show jL S (.new ds) (S++T)=.ok (.new ds) S by
  unfold jL;rw[iP sO];have e:(S++T).take ↑1=S:=by simp
  dsimp only;rw[iP h,e])
def IB(hn:↑58=n)(a:F (zG rs S).1 (zG rs S).2=.ok (.val (.loc l)) (S++T))(c:↑1<=l)(b:(S++T)[l]? =some (.lst ds))(h:AW ↑1 ds):zE n F rs S=.ok (.new ds) S:=by unfold zE;rw[iP hn,a];exact (show jL S (.val (.loc l)) (S++T)=.ok (.new ds) S by
  unfold jL;rw[iP sO];have e:(S++T).take ↑1=S:=by simp
  dsimp only;rw[iN #[0],b];dsimp only;rw[iP h,e])
def cV(hn:↑58=n)(a:F (zG rs S).1 (zG rs S).2=.ok (.val d) S)(h:lo ↑1 d)(b: ∀l,d≠.loc l):zE n F rs S=.ok (.val d) S:=pG hn (by rw[aN];exact a) h b
section
theorem X4(b)(S):gY (.val (.bl b)) S=.ok b S:=rfl
theorem as_int(i)(S):M5 (.val (.int i)) S=.ok (some i) S:=rfl
theorem Zb(b)(S):pE (.val (.bl b)) S=.ok b S:=rfl
theorem add_int(i j)(S):jU (.val (.int i)) (.val (.int j)) S=.ok (.val (.int (i+j))) S:=rfl
theorem sub_int(i j)(S):Cp (.val (.int i)) (.val (.int j)) S=.ok (.val (.int (i - j))) S:=rfl
def add_str(h:x.length+y.length<=sizeLine):jU (.val (.str x)) (.val (.str y)) S=.ok (.val (.str (x++y))) S:=iP h
def XB(a:Ou S p=some x)(b:Ou S q=some y)(h:x.length+y.length<=sizeLine):jU p q S=.ok (.new (x++y)) S:=by
 have e:ZI p q S=.ok (.new (x++y)) S:=by unfold ZI;rw[a,b];exact iP h
 unfold jU;split
 .cases a
 .cases a
 .cases a
 .exact e
theorem Zc(i j)(S):zBY g (.val (.int i)) (.val (.int j)) S=.ok (.val (.bl (g i j))) S:=rfl
def Pk(i j):Nf (.int i) (.int j)=decide (i=j):=by
 show(i==j)=_;by_cases h:i=j
 .subst h;simp
 .rw[dF0 h];simpa using h
def Pm(x y):Nf (.str (bC x)) (.str (bC y))=decide (x=y):=by
 show(bC x==bC y)=_;by_cases h:x=y
 .subst h;simp
 .rw[dF0 h];have:=λz=>h (uE z);simpa using this
theorem OZ(n)(i j):eqv S (n+1) (.int i) (.int j)=some (decide (i=j)):=by rw[<-Pk];rfl
theorem GR(n)(x y):eqv S (n+1) (.str x) (.str y)=some (decide (x=y)):=by rw[<-Pm];rfl
theorem Zd(n)(x)(y):eqv S (n+1) (.int x) (.str y)=some false:=rfl
theorem Ze(n)(x)(y):eqv S (n+1) (.str x) (.int y)=some false:=rfl
theorem Pn(d f):BG (.val d) (.val f) S=match eqv S (zK+1) d f with |some k=>.ok (.val (.bl k)) S|none=>.no:=rfl
theorem Po(d f):KO (.val d) (.val f) S=match eqv S (zK+1) d f with |some k=>.ok (.val (.bl !k)) S|none=>.no:=rfl
def Ib(h:eqv S (zK+1) d f=some k):BG (.val d) (.val f) S=.ok (.val (.bl k)) S:=by rw[Pn,h]
def Ic(h:eqv S (zK+1) d f=some k):KO (.val d) (.val f) S=.ok (.val (.bl !k)) S:=by rw[Po,h]
def eq_int(i j)(S):BG (.val (.int i)) (.val (.int j)) S=.ok (.val (.bl (decide (i=j)))) S:=Ib (OZ _ i j)
def eq_str(x y)(S):BG (.val (.str x)) (.val (.str y)) S=.ok (.val (.bl (decide (x=y)))) S:=Ib (GR _ x y)
theorem lt_int(i j)(S):Hg (.val (.int i)) (.val (.int j)) S=.ok (.val (.bl (decide (i<j)))) S:=rfl
theorem lt_str(i j)(S):Hg (.val (.str i)) (.val (.str j)) S=.ok (.val (.bl (decide (i<j)))) S:=rfl
theorem PB(h:0<b)(d:b<1073741824)(a)(S):SR (.val (.int a)) (.val (.int b)) S=.ok (.val (.int (a / b))) S:=by
 refine iP ⟨h,?_⟩;have c:b.natAbs<2 ^ 30:=by omega
 have:=(Nat.log2_lt (by omega:b.natAbs≠0)).mpr c
 lia
def mod_lit(h:0<b)(a)(S):KN (.val (.int a)) (.val (.int b)) S=.ok (.val (.int (a % b))) S:=iP h
def GS(h: -(2 ^ 64)<b/\b<2 ^ 64)(a)(S):BF (.val (.int a)) (.val (.int b)) S=.ok (.val (.int (a * b))) S:=iP (Or.inr (Or.inl h))
def SY(h: -(2 ^ 64)<a/\a<2 ^ 64)(b)(S):BF (.val (.int a)) (.val (.int b)) S=.ok (.val (.int (a * b))) S:=iP (Or.inl h)
theorem Pp(ρ)(i)(d)(S):HW ρ i (.val d) S=.ok (.next (ρ.set i (some d))) S:=rfl
theorem Pq(ρ)(i)(ds)(S):HW ρ i (.new ds) S=.ok (.next (ρ.set i (some (.loc ↑1)))) (S++[.lst ds]):=rfl
theorem Pr(S):zG [] S=([],S):=rfl
theorem Ps(d)(rs)(S):zG (.val d::rs) S=(d::(zG rs S).1,(zG rs S).2):=rfl
theorem zD(h:F ρ S=.ok (.next ρ') S'):zF F G ρ S=G ρ' S':=by unfold zF;rw[h];rfl
theorem bG(h:F ρ S=.ok (.ret r) S'):zF F G ρ S=.ok (.ret r) S':=by unfold zF;rw[h];rfl
def wQ(S):stay [] S:=jT
def zW(a:gf d ρ S=.ok ρ0 S0)(h:b ρ0 S0=.ok (.next ρ') S')(hs:stay gs S'):yZ gf b gs (d::ds) ρ S=yZ gf b gs ds ρ' S':=by
 conv=>lhs;unfold yZ
 rw[a,bB,h,bB];dsimp only;rw[iP hs]
def ZM(a:gf d ρ S=.ok ρ0 S0)(h:b ρ0 S0=.ok (.ret r) S'):yZ gf b gs (d::ds) ρ S=.ok (.ret r) S':=by
 conv=>lhs;unfold yZ
 rw[a,bB,h,bB]
theorem PC(b:0<=i)(a:i<↑8): ∃c,uY xs i=some c:=by refine⟨xs[i.toNat]'#[0],?_⟩;unfold uY NW;rw[iP b,iP a];exact gE _
def PD{P:α->Prop}(h: ∀e∈xs,P e)(z:uY xs i=some e):P e:=by
 unfold uY at z
 cases q:NW ↑8 i with
 |none=>rw[q]at z;cases z
 |some j=>rw[q]at z;exact h e (è z)
def ix_str(h:x.length<=sizeLine)(a:uY x i=some c):jV (.val (.str x)) (.val (.int i)) S=.ok (.val (.str [c])) S:=by show(if x.length<=sizeLine then match uY x i with |some c=>R.ok _ S|none=>.no else .no)=_;rw[iP h,a]
def ix_tup(a:uY ds i=some d):jV (.val (.tup ds)) (.val (.int i)) S=.ok (.val d) S:=by show(match uY ds i with |some d=>R.ok _ S|none=>.no)=_;rw[a]
def Zf(a:uY ds i=some d):jV (.new ds) (.val (.int i)) S=.ok (.val d) S:=by show(match uY ds i with |some d=>R.ok _ S|none=>.no)=_;rw[a]
def AD(a:S[l]? =some (.lst ds))(b:uY ds i=some d):jV (.val (.loc l)) (.val (.int i)) S=.ok (.val d) S:=by
 have e:jO S (.val (.loc l))=some ds:=by unfold jO;dsimp only;rw[a]
 show(match jO S _ with |some ds=>getL ds _ S|none=>.no)=_;rw[e];show(match uY ds i with |some d=>R.ok _ S|none=>.no)=_;rw[b]
def gA(b:S[l]? =some (.lst ds)):nZ [.val (.loc l)] S=.ok (.val (.int ↑12)) S:=by
 have a:itemsOf S (.val (.loc l))=some ds:=by unfold itemsOf;exact(by unfold jO;dsimp only;rw[b])
 show(match itemsOf S _ with |some ds=>R.ok _ S|none=>.no)=_;rw[a]
def pH(a:S[l]? =some (.lst ds)):jO S (.val (.loc l))=some ds:=by unfold jO;dsimp only;rw[a]
def ZN(a:S[l]? =some (.lst ds)):Ou S (.val (.loc l))=some ds:=by unfold Ou;dsimp only;rw[a]
def xX(a:S[l]? =some (.lst ds)):GH (.val (.loc l)) S=.ok ⟨ds,[(l,ds)]⟩ S:=by unfold GH;dsimp only;rw[a]
def yN(b:S[l]? =some (.lst ds)):stay [(l,ds)] S:=λp a=>by
 have:=by simpa using a
 subst this;exact b
def sP(h: -(2 ^ 62)<=j/\j<2 ^ 62):nY [.val (.int j)] S=.ok ⟨(List.range j.toNat).map λk=>.int (k:Nat),[]⟩ S:=iP h
def cut_str(h:x.length<=sizeLine)(lo hi):OV (.val (.str x)) lo hi S=.ok (.val (.str (rY x lo hi))) S:=iP h
def Pt(x:List α)(k)(d:0<=k):rY x none (some k)=x.take k.toNat:=by
 unfold rY;have b:HT.sIx x.length 0 none=0:=rfl;refine qq b ?_;have c:HT.sIx x.length x.length (some k)=min k.toNat x.length:=by unfold HT.sIx;simp only;split<;>lia
 rw[c,drop_zero,Nat.sub_zero];by_cases a:k.toNat<=x.length
 .rw[min_eq_left a]
 .rw[Nat.min_eq_right (by lia),take_length,ĉ (by lia)]
def fits(h:n<=1000000):n<=sizeLine:=by rw[ĝ];exact ô h ↑11
def EA(h:↑58<=1000000):jN rs S=.ok (.new (zG rs S).1) (zG rs S).2:=iP (fits h)
def XC(h:↑58<=1000000):nW rs S=.ok (.val (.tup (zG rs S).1)) (zG rs S).2:=iP (fits h)
def X5(S):jN [] S=.ok (.new []) S:=EA (by simp)
def lst1(a)(S):jN [.val a] S=.ok (.new [a]) S:=EA (by simp)
def X6(a b)(S):jN [.val a,.val b] S=.ok (.new [a,b]) S:=EA (by simp)
def X7(a b c)(S):jN [.val a,.val b,.val c] S=.ok (.new [a,b,c]) S:=EA (by simp)
def lst6(a b c d e f)(S):jN [.val a,.val b,.val c,.val d,.val e,.val f] S=.ok (.new [a,b,c,d,e,f]) S:=EA (by simp)
def tup2(a b)(S):nW [.val a,.val b] S=.ok (.val (.tup [a,b])) S:=XC (by simp)
def X8(a b c)(S):nW [.val a,.val b,.val c] S=.ok (.val (.tup [a,b,c])) S:=XC (by simp)
theorem Zg(i)(S):BM [.val (.int i),.val (.typ "str")] S=.ok (.val (.bl false)) S:=rfl
theorem Zh(i)(S):BM [.val (.str i),.val (.typ "str")] S=.ok (.val (.bl true)) S:=rfl
theorem Zi(i)(S):BM [.val (.int i),.val (.typ "tuple")] S=.ok (.val (.bl false)) S:=rfl
theorem Zj(i)(S):BM [.val (.str i),.val (.typ "tuple")] S=.ok (.val (.bl false)) S:=rfl
theorem Zk(i)(S):BM [.val (.tup i),.val (.typ "tuple")] S=.ok (.val (.bl true)) S:=rfl
theorem Zl(i)(S):BM [.val (.bl i),.val (.typ "bool")] S=.ok (.val (.bl true)) S:=rfl
theorem sQ(hs:stay gs S):
  ∀{ds},(∀d∈ds, ∃j,gf d ρb S=.ok j S/\cf j S=.ok true S/\ef j S=.ok (.val (F d)) S)->yD gf cf ef ρb gs ds S=.ok (ds.map F) S
 |[],_=>rfl
 |d::ds,st=>by refine(st d mF0).b λj m q u=>?_;unfold yD;rw[m,yS,bB,q,yS,bB,iP rfl,u,yS,bB];unfold kE;rw[bB,iP hs,(sQ hs (ds:=ds) λd a=>st d (mO _ a))];rfl
def Nm(x:Db):Prop:=1<=x.length/\x.length<=8/\ ∀c∈x,97<=c/\c<=122
def Vl:MV->Prop
 |.int i=> -(10 ^ 30)<i/\i<10 ^ 30
 |.str x=>Nm x
 |_=>False
def Vl.cases(h:Vl d):(∃i,d=.int i/\ -(10 ^ 30)<i/\i<10 ^ 30)\/ ∃x,d=.str x/\Nm x:=by
 cases d with
 |int i=>exact .inl ⟨i,rfl,h⟩
 |str x=>exact .inr ⟨x,rfl,h⟩
 |_=>exact h.elim
end
noncomputable def Ite(K:U0)(k:Bool)(l:Addr):It:=
 ⟨λi H=> ∃xs x,IA k K H l xs/\xs[i]? =some x,
   λi H v H'=> ∃p x,H p=none/\v=.ref p/\H'=xV H p (.tup [.int (i:Nat),x])/\(∀xs,IA k K H l xs->xs[i]? =some x),
   λi H=> ∃xs,IA k K H l xs/\↑8<=i⟩
section
variable{s:œ}
def Cz(a:IsSeq k s.heap l its)
  (h: ∀h',EnSt k (↑0+1) ↑0 l 0 h'->(∀c o,s.heap.get? c=some o->h'.get? c=some o)->Q (.ref (↑0+1)) {s with heap:=h'}):
  wpAny ↑6 A (call (.type "enumerate") [.ref l]) Q E s:=by
 refine callType_new F.called_enumerate ↑11 (F.typeCall_enumerate_1 _) (F.newCall_enumerate_1 _) (λi=>F.args_object_init_2 i _) F.entry_enumerate_new ((show Meets (Builtin.«enumerate.__new__» ⟨[.type "enumerate",.ref l],[]⟩) (λ_ R s=>IsSeq k s.heap l its/\
   R (.ok (.ret (.ref (↑0+1)))) {s with heap:=(s.heap.push (AB k l)).push {cls:=.type "enumerate",data:=.fields #[.none,.bool false,.ref ↑0,rawInt 0,.none,.none]}}) from .of_wp λprog w A R s h=>by
    obtain⟨r,g,d,p,q⟩:=s;obtain⟨a,h⟩:=h;have n:=sub_enumerate;have j:=a;have e: ∀(h:Heap)(o:Obj),(h.push o).objs.size=h.objs.size+1:=λh o=>Ĕ ..
    wp_walk
    refine wpAny_stack_any λst=>wP ?_;split
    .rename_i c _ _ _ _ _;cases (c==Value.type "enumerate")
     .wp_walk using sN j
      exact⟨_,rfl,by simp only[e];exact h⟩
     .wp_walk using sN j
      exact⟨_,rfl,by simp only[e];exact h⟩
    .wp_walk using sN j
     exact⟨_,rfl,by simp only[e];exact h⟩)) ⟨a,?_⟩;have m:=by have:=á (s.heap.push (AB k l)) (o:={cls:=.type "enumerate",data:=.fields #[.none,.bool false,.ref ↑0,rawInt 0,.none,.none]}) rfl;rw[(Ĕ ..)]at this;exact this
 refine⟨(Z3 _ m rfl),h _ ⟨⟨_,m⟩,IsSub.mk' (hP0 _ (á _ rfl))⟩ λb o x=>hP0 _ (hP0 _ x)⟩
end
theorem Da{K:U0}(hne:e≠it):
  Turn P w K (.Tuple elts kt pt) (Ite K k l) [e,it] e (λi h=>EnSt k e it l i h) where
 mem:=by simp
 obj:=λi h st b hb=>by
  obtain⟨⟨old,he⟩,hs⟩:=st;rcases (by simpa using hb)with rfl|rfl
  .exact(Z3 _ he (λv q=>by cases q))
  .exact hs.there
 keep:=λi h h' st kk=>by obtain⟨⟨old,he⟩,hs⟩:=st;exact⟨⟨old,kk e (by simp) _ he⟩,hs.move λo q=>kk it (by simp) o q⟩
 item:=by
  rw[23];subst hP hw hK;refine hg.d λxs x q1 hx=>?_;refine(I.seqK q1).b λits r1 p1 _=>?_;refine(r1.get hx).a λu hu ru=>?_;have⟨⟨old,he⟩,hs⟩:=st;have hT:s.TypeIs (.ref e) "enumerate":=(Z3 _ he rfl)
  refine wB (Ć (í hT F.slot_enumerate_next (ë F.slot_enumerate_next hT F.entry_enumerate_next
   (Pi he hs p1 (by simpa using hu) hne λh' a1 a2 a3 a4=>wP (Z3 _ rfl ?_)) (F.args_enumerate_next_1 _))))
  refine wpAny_letOwnedTupleGo_enum a1 λh2 z2 sb2=>?_
  have I0:Inv X pins σ _ {s with heap:=s.heap.push {cls:=.type "tuple",data:=.seq #[.int i s.toks,u]},toks:=s.toks+1}:=
   I.laid (o:=.tup [.int _,x]) (λb o e=>hP0 _ e) (à _) ⟨by show 2<=sizeLine;decide,_,.cons ⟨_,rfl⟩ (.cons ru .nil),⟨_,á _ rfl,rfl,_,rfl⟩⟩
  have lt: ∀b∈[e,it],b<s.heap.objs.size:=λb hb=>by
   rcases (by simpa using hb)with rfl|rfl
   .exact ã he
   .refine hs.there.a λo eo _=>?_;exact ã eo
  have fr: ∀b∈[e,it],xV H ↑0 (.tup [.int (i:Nat),x]) b=none:=λb hb=>by rw[zH (é (lt b hb))];exact(hf b hb).1
  have mv: ∀b o,b∉[e,it]->(s.heap.push {cls:=.type "tuple",data:=.seq #[.int i s.toks,u]}).get? b=some o->h2.get? b=some o:=λb o hb eo=>by
   simp only[mC,nM,or_false,not_or]at hb;refine sb2.extBut _ _ hb.1 ?_;by_cases hbs:b=↑0
   .subst hbs;rw[á _ rfl]at eo;cases eo;exact a3
   .rw[Heap.get?_push_ne _ _ _ hbs]at eo;exact a4 b o hb.1 hb.2 eo
  refine XD (.ref ↑0) _ (I0.turnedL (t':=s.toks+1) mv λb hb=>let ⟨_,c2,c3,c4,c5,c6⟩:=hf b hb;⟨fr b hb,c2,c3,c4,c5,c6⟩) rfl (Ym _ x ↑25 rfl rfl (λzs hz=>?_)) ⟨⟨u,?_⟩,?_⟩ fr
  .rw[I.seqK_inj hz q1];exact hx
  .simpa using z2
  .exact a2.move λo eo=>sb2.extBut _ _ (Ne.symm hne) eo
 done:=by
  rw[23];subst hP hw hK;obtain⟨xs,q1,hx⟩:=hg;refine(I.seqK q1).b λits r1 p1 _=>?_;have⟨⟨old,he⟩,hs⟩:=st;have hT:s.TypeIs (.ref e) "enumerate":=(Z3 _ he rfl)
  have e1:=r1.length;refine wB (Ć (í hT F.slot_enumerate_next (ë F.slot_enumerate_next hT F.entry_enumerate_next ?_ (F.args_enumerate_next_1 _))));rw[32];refine wB (ò he rfl rfl ?_);refine wB (BO (I.ok.hd hc) hs p1 (by simp;lia) λh' x hk hx'=>?_);refine hx'.a λo ho hcl=>?_;refine wB (Ě (Z3 o ho hcl) ń (wP ⟨rfl,?_⟩));refine I.turnedL (λb o hb eo=>?_) hf;simp only[mC,nM,or_false,not_or]at hb;exact hk b o hb.2 eo
 self:=λ_ _ _ _ _ st h=>let ⟨⟨_,he⟩,_⟩:=st;wpAny_pyIter_enum he h
def X9(K:U0)(b:TA):TI:=λσ H R=>b σ H λvs a=> ∃k l,vs=[.ref l]/\(∃xs,IA k K a l xs)/\R (Ite K k l) a
section
variable{a:Expr}{p:Pos}
def Pu(v:Gl X "enumerate")(hm:X.mg "enumerate"=none)(u:PA X [a] ta)(hs:starEach [a] X.env=[↑62]:=by rfl):
  PI X (.Tuple elts kt pt) (.Call (.Name "enumerate" p) [a] [] pos) (X9 X.K ta):=by
 intro pins s σ H R I h;refine Call_ (pY I v hm (show bootBuiltins "enumerate"=some (.type "enumerate") by decide+kernel) (Ē (wG (u pos pins s σ H _ I h) λA y ⟨vs,n,I1,i,w⟩=>?_) (by rw[hs];rfl) (by rfl)));refine w.c λk l g j q=>?_;subst g;obtain ⟨xs,d⟩:=j
 cases i with
 |cons r rr=>
  cases rr;subst r;refine(I1.seqK d).b λj z p1 _=>?_;refine Cz p1 λh' st e=>let ⟨⟨_,m⟩,_⟩:=id st;wpAny_pyIter_enum m ?_;refine XL _ _ _ _ n rfl (I1.kept e) (Da (ú (Nat.lt_succ_self _))) st (λb o=>?_) q;have c:y.heap.objs.size<=b:=by rcases (by simpa using o)with h|h<;>refine qq h ?_<;>(first |exact à _|exact ě _ _)
  exact I1.fpOk c (I1.hok.fresh c)
noncomputable def SZ(xs:X0):List MV:=xs.zipIdx.map λp=>.tup [.int (p.2:Nat),p.1]
def Tv(rs:List Er)(S:Sto):R Wk:=match rs with
 |[p]=>match srcOf S p with
  |some a=>.ok ⟨SZ a.ds,a.gs⟩ S
  |none=>.no
 |_=>.no
theorem Pw(N:Gl X "enumerate")(hm:X.mg "enumerate"=none)(s:GF X W [a] af)(hs:starEach [a] X.env=[↑62]:=by rfl):
  KC X W (.Tuple elts kt pt) (.Call (.Name "enumerate" p) [a] [] pos) (λz S=>(af z S).bind Tv):=by
 refine s.a λt s k=>?_;refine Z3 _ (Pu N hm s hs) (λα z S σ H Rc O sl q=>k α z S σ H _ O sl (q.bind λvs rs K m L e P A J b=>?_))
 replace b:=b.shift P
 unfold Tv at b;split at b
 .rename_i r1;split at b
  .rename_i y Q;refine(LW J).a λu g U=>?_;subst g;refine(AC A Q U).c λY Z u p1 c=>?_;subst u;have E:(SZ y.ds).length=y.ds.length:=by unfold SZ;rw[lM,List.length_zipIdx]
   refine Z0 y.k Y rfl ⟨_,(c.get _ _ _ p1).choose_spec.1⟩ (b.here A ⟨λα S H=>Z α S H,?_,p1,?_,?_⟩)
   .intro i j T H2 h B;refine(c.get _ _ _ h).a λv n F=>?_;have hl:=F.length;refine⟨λhi=>?_,λhi=>?_⟩
    .have hi:=hi;refine⟨(YS v _ n (gE #[0])),?_⟩;rintro x H' ⟨pp,G,D,rfl,rfl,I⟩;refine(F.get (I v n)).a λd hd M=>?_;have r:=B.newx (o:=.tup [.int (i:Nat),G]) D;have C:=B.new (o:=.tup [.int (i:Nat),G]) D;refine⟨r,C,c.stays _ _ _ _ _ _ h r C (c.st _ _ _ h),.tup [.int (i:Nat),d],?_,?_⟩
     .unfold SZ;rw[ó,List.getElem?_zipIdx,hd];simp
     .exact eO (.of zO) (zQ (xM _) (zQ (M.ext r) zZ))
    .have hi:=hi;exact Z3 v n (by lia)
   .intro m K L j T H2 h x w hs;exact c.stays _ _ _ _ _ _ h x w hs
   .exact c.st _ _ _ p1
  .exact b.elim
 .exact b.elim
end
instance:DecidableEq MV:=λ_ _=>Classical.propDecidable _
def look(kvs:zA2)(k:MV):Option MV:=(kvs.find? λp=>decide (p.1=k)).map (·.2)
def putK(kvs:zA2)(k d:MV):List (MV×MV):=if(look kvs k).isSome=true then kvs.map (λp=>if p.1=k then(p.1,d)else p)else kvs++[(k,d)]
noncomputable def sR:MV->Bool
 |.tup _=>true
 |_=>false
theorem TB:yY .non=some (.key none):=by unfold yY;rfl
theorem aB(i):yY (.int i)=some (.key (some (.inl i))):=by unfold yY;rfl
theorem aC(x):yY (.str x)=some (.key (some (.inr (bC x)))):=by unfold yY;rfl
def aD(ds):yY (.tup ds)=(kD ds).map .tup:=by
 conv=>lhs;unfold yY
theorem pI:kD []=some []:=by unfold kD;rfl
def cW(d)(ds):kD (d::ds)=(yY d).bind λk=>(kD ds).map (k::·):=by
 conv=>lhs;unfold kD
mutual
theorem BQ: ∀{d e:MV}{k:NK},yY d=some k->yY e=some k->d=e
 |.int i,e,k,hd,m=>by
  rw[aB]at hd;cases hd
  cases e with
  |int j=>rw[aB]at m;cases m;rfl
  |str x=>rw[aC]at m;cases m
  |tup ds=>rw[aD]at m;cases z:kD ds<;>rw[z]at m<;>cases m
  |_=>unfold yY at m;cases m
 |.str x,e,k,hd,m=>by
  rw[aC]at hd;cases hd
  cases e with
  |int j=>rw[aB]at m;cases m
  |str y=>
   rw[aC]at m;have m:=ä m;injection m with m
   injection m with m
   injection m with m
   rw[uE m]
  |tup ds=>rw[aD]at m;cases z:kD ds<;>rw[z]at m<;>cases m
  |_=>unfold yY at m;cases m
 |.tup ds,e,k,hd,m=>by
  rw[aD]at hd
  cases z:kD ds with
  |none=>rw[z]at hd;cases hd
  |some ks=>
   rw[z]at hd;cases hd
   cases e with
   |int j=>rw[aB]at m;cases m
   |str y=>rw[aC]at m;cases m
   |tup es=>
    rw[aD]at m
    cases a:kD es with
    |none=>rw[a]at m;cases m
    |some ks'=>rw[a]at m;cases m;rw[MB z a]
   |_=>unfold yY at m;cases m
 |.non,e,k,hd,m=>by
  rw[TB]at hd;cases hd
  cases e with
  |non=>rfl
  |int j=>rw[aB]at m;cases m
  |str x=>rw[aC]at m;cases m
  |tup ds=>rw[aD]at m;cases z:kD ds<;>rw[z]at m<;>cases m
  |_=>unfold yY at m;cases m
 |.bl _,e,k,hd,m=>by unfold yY at hd;cases hd
 |.scr _,e,k,hd,m=>by unfold yY at hd;cases hd
 |.loc _,e,k,hd,m=>by unfold yY at hd;cases hd
 |.typ _,e,k,hd,m=>by unfold yY at hd;cases hd
 |.obj _ _ _,e,k,hd,m=>by unfold yY at hd;cases hd
theorem MB: ∀{ds es:X0}{ks:List NK},kD ds=some ks->kD es=some ks->ds=es
 |[],es,ks,hd,he=>by
  rw[pI]at hd;cases hd
  cases es with
  |nil=>rfl
  |cons e es=>
   rw[cW]at he;cases z:yY e<;>rw[z]at he
   .cases he
   .cases j:kD es<;>rw[j]at he<;>cases he
 |d::ds,es,ks,hd,he=>by
  rw[cW]at hd
  cases z:yY d with
  |none=>rw[z]at hd;cases hd
  |some k=>
   rw[z]at hd
   cases j:kD ds with
   |none=>rw[j]at hd;cases hd
   |some ks2=>
    rw[j]at hd
    cases es with
    |nil=>rw[pI]at he;cases he;cases hd
    |cons e es=>
     rw[cW]at he
     cases m:yY e with
     |none=>rw[m]at he;cases he
     |some k'=>
      rw[m]at he
      cases q:kD es with
      |none=>rw[q]at he;cases he
      |some ks4=>
       rw[q]at he;cases hd;cases he;rw[BQ z m,MB j q]
end
section
variable{X:Cx}{pins:L1}{σ:St}{H:Hp}{s:œ}{α:B9}
mutual
theorem EB(I:↑2): ∀{d:MV}{k:NK}{x:V}{u:Ŕ},yY d=some k->Den X.K α H d x->RelV x u->KI (mk X.prog X.w) s.heap k u
 |.int i,k,x,u,hk,hd,r=>by rw[aB]at hk;cases hk;cases xR hd;obtain⟨t,rfl⟩:=r;exact xW.mpr (by show oX (.inl i) (.int i t)=true;simp[oX,Value.isInt])
 |.str y,k,x,u,hk,hd,r=>by rw[aC]at hk;cases hk;cases xE hd;obtain⟨t,rfl⟩:=r;exact xW.mpr (by show oX (.inr (bC y)) (.str (bC y) t)=true;simp[oX,Value.isStrOf])
 |.tup ds,k,x,u,hk,hd,r=>by
  rw[aD]at hk
  cases z:kD ds with
  |none=>rw[z]at hk;cases hk
  |some ks=>
   rw[z]at hk;cases hk;obtain⟨a,vs,rfl,j,l⟩:=yQ hd;cases r;obtain⟨c,h,pt,_⟩:=I.tuple j;obtain⟨o,m,e,n,b⟩:=pt;exact xL.mpr ⟨a,o,c.toArray,n,rfl,m,e,b,by simpa using ZO I z l h⟩
 |.non,k,x,u,hk,hd,r=>by rw[TB]at hk;cases hk;cases aL hd;cases r;exact xW.mpr rfl
 |.bl _,k,x,u,hk,hd,r=>by unfold yY at hk;cases hk
 |.scr _,k,x,u,hk,hd,r=>by unfold yY at hk;cases hk
 |.loc _,k,x,u,hk,hd,r=>by unfold yY at hk;cases hk
 |.typ _,k,x,u,hk,hd,r=>by unfold yY at hk;cases hk
 |.obj _ _ _,k,x,u,hk,hd,r=>by unfold yY at hk;cases hk
theorem ZO(I:↑2): ∀{ds:X0}{ks:List NK}{xs:List V}{us:A0},kD ds=some ks->DenL X.K α H ds xs->Vals xs us->sE (mk X.prog X.w) s.heap ks us
 |[],ks,xs,us,hk,hd,r=>by rw[pI]at hk;cases hk;cases hd.isnil;cases r;exact wH.mpr rfl
 |d::ds,ks,xs,us,hk,hd,r=>by
  rw[cW]at hk;obtain⟨v,vs,rfl,a,l⟩:=hd.uncons
  cases r with
  |cons r1 r2=>
   cases z:yY d with
   |none=>rw[z]at hk;cases hk
   |some k=>
    rw[z]at hk
    cases b:kD ds with
    |none=>rw[b]at hk;cases hk
    |some ks2=>
     rw[b]at hk;cases hk;exact yL.mpr ⟨_,_,rfl,EB I z a r1,ZO I b l r2⟩
end
def DD(X:Cx)(H:Hp)(d:Addr)(xs:↑46):Prop:=H d=some (DN X.prog X.w d xs)\/(xs=[]/\H d=some (.dK []))
def DD.nf(h:DD X H d xs): ∀ob u,H d≠some (.frz ob u):=h.elim (λz=>Lz z) λz=>by first |exact Lz z.2|exact z.elim
def Y1{S:Sto}(ob:ObD X.g α H d (.dic kvs))(b:kvs.all (λp=>sR p.1)=true): ∃xs,DD X H d xs/\DenN X.K α H kvs xs:=by
 rcases ob with⟨ks,h,l⟩|⟨xs,h,l⟩
 .cases l with
  |nil=>exact Z3 ([]) (.inr ⟨rfl,h⟩) .nil
  |@cons k k' dd v fs gs hkd a l=>
   rw[List.all_cons,aE]at b
   cases k with
   |tup ds=>exact absurd hkd (by unfold KeyD;exact λz=>z)
   |_=>exact absurd b.1 xF0
 .exact(Z3 xs (.inl h) l)
theorem PF(I:↑2): ∀{kvs}{xs},DenN X.K α H kvs xs-> ∀x∈xs,(yC X.prog X.w).is s.heap x.1 x.2.1
 |_,_,.nil=>λx j=>by simp at j
 |_,_,.cons k e a d r l=>λx j=>by
  rcases mC.mp j with rfl|j
  .exact⟨EB I k a rfl,e⟩
  .exact PF I l x j
def qE(I:↑2)(h:DD X H d xs)(l:DenN X.K α H kvs xs):s.heap.DictOfH (yC X.prog X.w) d xs/\↑8<=sizeLine/\(d==sysModules)=false:=by
 rcases h with h|⟨rfl,h⟩
 .obtain⟨⟨r,hs,o,es,c,m,i,k,j,hn⟩,_⟩:=(I.hok d _ h)
  exact⟨(YR o es c ⟨m,i,k,j,PF I l,hn⟩),r,hs⟩
 .obtain⟨_,hs,vs,q,o,es,c,m,i,k,_,n,_⟩:=(I.hok d _ h)
  cases q;have j:es.toList=[]:=by cases e:es.toList with |nil=>rfl|cons a b=>rw[e]at n;cases n
  exact⟨(YR o es c ⟨m,i,k,by rw[j];rfl,λx p=>by simp at p,Ł⟩),zero_le _,hs⟩
def look_cons(p)(kvs)(k):look (p::kvs) k=if p.1=k then some p.2 else look kvs k:=by
 unfold look;rw[find?_cons];by_cases h:p.1=k
 .rw[dT0 h,iP h];rfl
 .rw[dF0 h,iN h]
def AG(x)(xs)(k:NK):atKey (x::xs) k=if x.1=k then some x.2 else atKey xs k:=by
 unfold atKey;rw[find?_cons];by_cases h:x.1=k
 .rw[dT0 h,iP h];rfl
 .rw[dF0 h,iN h]
theorem look_at: ∀{kvs}{xs}{k}{nk},DenN X.K α H kvs xs->yY k=some nk->(atKey xs nk).isSome=(look kvs k).isSome
 |_,_,k,nk,.nil,hk=>rfl
 |_,_,k,nk,.cons (k:=k') (nk:=nk') hk' e a d r l,hk=>by
  rw[look_cons,AG];by_cases h:k'=k
  .subst h;have:=by rw[hk]at hk';exact(ä hk').symm
   rw[iP this,iP rfl];rfl
  .have:nk'≠nk:=λz=>h (BQ hk' (by rw[hk,z]));rw[iN this,iN h];exact look_at l hk
theorem PH: ∀{kvs}{xs}{k d}{nk}{v}{u},DenN X.K α H kvs xs->yY k=some nk->Den X.K α H d v->RelV v u->DenN X.K α H (kvs.map λp=>if p.1=k then(p.1,d)else p) (xs.map (putAt nk u))
 |_,_,k,d,nk,v,u,.nil,hk,hd,r=>.nil
 |_,_,k,d,nk,v,u,.cons (k:=k') (nk:=nk') hk' e a dd rr l,hk,hd,r=>by
  rw[å,å];unfold putAt;by_cases h:k'=k
  .have hn:=by subst h;rw[hk]at hk';exact(ä hk').symm
   rw[iP h,iP hn];exact .cons hk' e a hd r (PH l hk hd r)
  .have hn:nk'≠nk:=λz=>h (BQ hk' (by rw[hk,z]));rw[iN h,iN hn];exact .cons hk' e a dd rr (PH l hk hd r)
theorem DenN.append: ∀{kvs j}{xs m},DenN X.K α H kvs xs->DenN X.K α H j m->DenN X.K α H (kvs++j) (xs++m)
 |_,_,_,_,.nil,h=>h
 |_,_,_,_,.cons hk e a d r l,h=>.cons hk e a d r (DenN.append l h)
def PJ(l:DenN X.K α H kvs xs)(c:yY k=some nk)(e:eM nk<=4)(j:Den X.K α H k (.ref a))(i:Den X.K α H d v)(r:RelV v u):DenN X.K α H (putK kvs k d) (storedH xs nk a u):=by
 unfold putK;have b:=look_at l c;by_cases h:(look kvs k).isSome=true
 .rw[iP h];rw[h]at b;obtain⟨p,m⟩:=î.mp b;rw[storedH_old m];exact PH l c i r
 .rw[iN h]
  have hn:atKey xs nk=none:=by
   cases z:atKey xs nk with
   |none=>rfl
   |some p=>rw[z]at b;exact absurd b.symm h
  rw[storedH_new hn];exact l.append (.cons c e j i r .nil)
end
section
variable{X:Cx}{a o i:Expr}
def PK(I:↑2):sysModules<s.heap.objs.size:=lt_trans ↑11 ((I.mod.glob.keeps I.bk).lt)
theorem Wd.put(w:Wd gg α S H)(i:H p=none)(q:ObD gg (α++[p]) (xV H p ho) p m):Ext α H (α++[p]) (xV H p ho)/\Wd gg (α++[p]) (S++[m]) (xV H p ho):=by
 have x:=w.newx (o:=ho) i;refine⟨⟨⟨⟨[p],rfl⟩,x.tup,x.frz⟩,λb n=>?_,x.keep,x.has⟩,⟨?_,?_,λl c s d e=>?_⟩⟩
 .rcases ê.mp n with h|h
  .exact .inl h
  .rw[mS.mp h];exact .inr i
 .rw[lA,lA,w.len];rfl
 .exact ĥ.mpr ⟨w.nd,by simp,λa r c u=>by rw[mS.mp u];rintro rfl;exact(w.fresh i) r⟩
 .by_cases k:l<α.length
  .rw[â k]at d;rw[â (by rw[<-w.len];exact k)]at e;exact((w.new (o:=ho) i).obj l c s d e).move (Ex0.grow α [p] _) rfl
  .have j:l=α.length:=by
    have:=(gS.mp d).1;rw[lA,lS]at this
    lia
   subst j;rw[æ (à _),sub_self]at d;rw[æ (by rw[w.len];exact à _),w.len,sub_self]at e;cases d;cases e;exact q
noncomputable def BR(S:Sto):R Er:=.ok (.val (.loc ↑1)) (S++[.dic []])
def Id:zI X W (.Dict [] [] pos) (λ_ S=>BR S):=by
 refine⟨λσ H Q=> ∀p,H p=none->Q (.ref p) (xV H p (.dK [])),λpins s σ H Q I h=>?_,λα d S σ H Q a sl q p c=>?_⟩
 .exact wpAny_Dict_empty (Z0 (.ref ↑0) _ (I.laid (o:=.dK []) (λ_ _ q=>hP0 _ q) (à _)
   ⟨zero_le _,Ŋ.mpr (Ne.symm (é (PK I))),[],.nil,Heap.DictOf.new s.heap⟩) rfl (h _ ↑25))
 .obtain⟨x,b⟩:=a.put (m:=.dic []) c (.inl ⟨[],zO,.nil⟩);exact q _ _ _ x b (DenE.val (qD (by rw[<-a.len,æ (à _),sub_self];rfl)))
def jW(S:Sto):Er->Option (Nat×List (MV×MV))
 |.val (.loc l)=>match S[l]? with
  |some (.dic kvs)=>if kvs.all (λp=>sR p.1)=true then some (l,kvs)else none
  |_=>none
 |_=>none
def keyOk(k:MV):Bool:=sR k&&(match yY k with |some nk=>decide (eM nk<=4)|none=>false)
def BS(h:keyOk k=true): ∃nk,yY k=some nk/\eM nk<=4/\sR k=true:=by
 unfold keyOk at h;rw[aE]at h
 cases z:yY k with
 |none=>rw[z]at h;exact absurd h.2 xF0
 |some nk=>rw[z]at h;exact ZB nk rfl (ė h.2) h.1
def sS(j:↑27)(e:jW S r=some (l,kvs))(d:DenX X.K α H r x):
  ∃c xs,x=.ref c/\α[l]? =some c/\S[l]? =some (.dic kvs)/\DD X H c xs/\DenN X.K α H kvs xs:=by
 unfold jW at e;split at e
 .rename_i n;refine(iA d).a λc m h=>?_;subst m;split at e
  .rename_i k a;split at e
   .rename_i b;obtain⟨rfl,rfl⟩:=Prod.mk.inj (ä e);refine(Y1 (S:=S) (j.obj _ c _ h a) b).a λxs i l=>?_;exact XD c xs rfl h a i l
   .cases e
  .cases e
 .cases e
def GT(h:sR k=true)(d:Den X.K α H k x): ∃a,x=.ref a:=by
 cases k with
 |tup ds=>refine(yQ d).d λa _ b _=>?_;subst b;exact⟨a,rfl⟩
 |_=>exact absurd h xF0
def Y2(X:Cx):TSet:=λo i v H Q=> ∃(α:B9)(kvs:zA2)(xs:↑46)(a d:Addr)(k:MV)(nk:NK),o=.ref d/\i=.ref a/\DD X H d xs/\DenN X.K α H kvs xs/\yY k=some nk/\eM nk<=4/\Den X.K α H k (.ref a)/\↑8<sizeLine/\
 ∀u,RelV v u->Q (xV H d (DN X.prog X.w d (storedH xs nk a u)))
def AH{k:NK}{a:Addr}:(storedH xs k a u).length<=↑8+1:=by
 cases h:atKey xs k with
 |none=>rw[storedH_new h,lA];exact à _
 |some p=>rw[storedH_old h,lM];exact le_succ _
noncomputable def BU(p q:Er)(d:MV)(a:Rho)(S:Sto):R Rho:=match q with
 |.val k=>match jW S p with
  |some (l,kvs)=>if keyOk k=true/\kvs.length<1000000 then .ok a (S.set l (.dic (putK kvs k d)))else .no
  |none=>.no
 |_=>.no
theorem DenN.length: ∀{kvs xs},DenN X.K α H kvs xs->↑8=kvs.length
 |_,_,.nil=>rfl
 |_,_,.cons _ _ _ _ _ l=>by rw[lC,lC,DenN.length l]
def Px(hu:↑20)(m:zI X W o f)(hi:zI X W i g)
  (ha: ∀v,assign (.Subscript o i pos) X.env v=(do
   let G <-holding [v] (eval o X.env);let L <-holding [v,G] (eval i X.env)
   standAt pos
   holding [v,G,L] (setItem G L v)
   release [v,G,L] []):=by intro _;rfl):Cj X W (.Subscript o i pos) (λd B S=>(f B S).bind λp S1=>(g B S1).bind λq S2=>BU p q d B S2):=by
 refine m.a λto m fo=>?_;refine hi.a λti hi fi=>?_;refine(Z3 _ (VZ m hi ((show Mo X (Y2 X) by
   intro pins s σ H o i v G L u Q I ro ri rv h;refine h.w λα C xs a d k K V=>V.r λac ad n l J e ha hz q=>?_;subst ac;subst ad;cases ro;cases ri;refine(qE I n l).e λhm aa hs=>?_;refine wpAny_setItem_heap (knd:=yC X.prog X.w) (show X.A.units+1+4<cLine by omega) ⟨EB I J ha rfl,e⟩ hm (λh' T U=>(Z3 _ ?_ (q u rv))) aa;have mu:Uz (H d):=by rcases n with z|⟨_,z⟩<;>rw[z]<;>exact trivial
   refine T.g λP es ep a0=>a0.f λm E hd he _ hn=>?_;refine I.write mu (.inl rfl) (λb uo hb eo=>(U.2 b hb).trans eo) ⟨P,m⟩ ?_;refine⟨⟨by have:=AH (xs:=xs) (k:=K) (a:=a) (u:=u);lia,hs,P,es,ep,m,E,hd,he,hn⟩,⟨P,m⟩,?_⟩;rintro h1 h2 ⟨z1,z2,o',N,ab,Y,r⟩ mv;exact⟨z1,z2,o',N,ab,mv o' Y,r⟩)) ha) (λα B S σ H d v Q wd sl de q=>fo α B S σ H _ wd sl (q.bind λu p S1 M H1 e1 D w1 d1 q1=>fi M B S1 σ H1 _ w1 (sl.ext D) ((q1.shift D).bind λu2 p2 S2 y H2 e2 F O Z j=>?_))))
 replace j:=j.shift F
 unfold BU at j;split at j
 .rename_i k;split at j
  .rename_i l C e;split at j
   .rename_i J;refine(BS J.1).b λK h1 h2 h3=>?_;refine(sS O e (DenX.ext F d1.1)).l λc xs ap E hS n dl=>?_;subst ap;obtain⟨a',rfl⟩:=GT h3 Z.1;refine WI y C xs a' c k K ⟨rfl,rfl,n,dl,h1,h2,Z.1,?_,λu ru=>?_⟩
    .rw[dl.length];exact ç J.2 (fits (à _))
    .have xw:=O.writex E n.nf (o:=DN X.prog X.w c (storedH xs K a' u));exact j σ y _ xw (O.write E n.nf (.inr (Z3 _ zO ((PJ dl h1 h2 Z.1 ((de.ext D).ext F) ru).ex0 xw.toEx0)))) (((sl.ext D).ext F).ext xw)
   .exact j.elim
  .exact j.elim
 .exact j.elim
end
def FsD(g:Gm)(α:B9)(H:Hp)(d:Option Addr)(fs:List (Str×MV)):Prop:=fs=[]\/ ∃b a c,d=some b/\H b=some (.frz c (.xd a))/\DenF g.K α H fs a
abbrev WE(g:Gm)(E:XK):XW:=λc fs _ α H=> ∀C d,g.mg c=some (.ref C)->FsD g α H d fs->E (.ref C) d H
noncomputable def Zm:MV->Bool
 |.non=>true
 |.bl _=>true
 |.int _=>true
 |.str _=>true
 |_=>false
def Post.wmono[Dn β τ](f: ∀c fs S α' H',W c fs S α' H'->W' c fs S α' H'): ∀{m:R β}{Q},Post g W α H m Q->Post g W' α H m Q
 |.ok b S,Q,q=>q
 |.exc c fs S,_,q=>λα' H' x w=>f _ _ _ _ _ (q α' H' x w)
 |.no,_,q=>q
def XCl(K:U0)(C:Addr)(h:A0)(a:Option Ŕ):Prop:=
 ∃nm q N bs d o c j b k i e r p m,K.lookup C=some (excClassObj nm q C N bs h d o c j b k i e r p m "ValueError.__new__")/\PySem.W.nsOkIn K N=true/\PySem.W.nsIn K N "__init__"=some a/\(∀n∈qn,PySem.W.nsIn K N n=some none)/\d=true
def XEach(K:U0)(mg:K0)(M:Addr):List (Str×Addr)->Prop
 |[]=>True
 |(c,C)::r=>(mg c=some (.ref C)/\ ∃i,XCl K C (.ref M::zBW) i)/\XEach K mg M r
theorem XEach.at{K:U0}: ∀{cs},XEach K mg M cs-> ∀{c C},(c,C)∈cs->mg c=some (.ref C)/\ ∃i,XCl K C (.ref M::zBW) i
 |_::r,h,c',C',z=>by
  rcases mC.mp z with z|z
  .cases z;exact h.1
  .exact XEach.at h.2 z
def zCA(g:Gm)(n:Nat)(F:↑21):Sp:=λvs H Q E=> ∃α S a,Wd g α S H/\DenL g.K α H a vs/\↑67=n/\Post g (WE g E) α H (F a S) Q
def ZP(n:Nat)(F:List MV->Sto->R Er)(rs:List Er)(S:Sto):R Er:=if rs.length=n then(match F (zG rs S).1 (zG rs S).2 with
 |.ok r S2=>jL S r S2
 |.exc c fs S2=>if fs.all (λp=>Zm p.2)=true then(jL S (.val .non) S2).bind λ_ a=>.exc c fs a else .no
 |.no=>.no)else .no
section
variable{K:U0}
def _root_.L2.FnOk.noX(G:FnOk P w K mg base (CXe P w) k f fd ps (zCA g n F)):FnOk P w K mg base GP k f fd ps (VW g n F):=by
 have d: ∀{vs H Q}, ∀{E},VW g n F vs H Q E->zCA g n F vs H Q E0:=λ⟨α,S,o,j,m,u,p⟩=>(YR (α) S o ⟨j,m,u,p.wmono λ_ _ _ _ _ z=>z.elim⟩)
 refine⟨λvs H Q E h=>G.len vs H Q E0 (d h),λA a s H b y vs Q E v i q hv h=>codeAny_mono (G.run A a s H b y vs Q E0 v i q hv (d h)) λr B c=>?_⟩
 cases r with
 |error e=>
  obtain⟨_,_,_,_,_,_,_,_,_,_,_,_,_,_,_,z⟩:=c;exact z
 |ok fl=>cases fl<;>exact c
end
end M
end L2
namespace L2
open PySem PySem.Spec PyProof.Rows
structure Out(X:Cx)(pins:L1)(H:Hp)(s:œ)(b:Addr):Prop where
 s0:X.s₀.heap.get? b=none
 h:H b=none
 pin: ∀p∈X.pn++pins,p.1≠b
 fld: ∃o vs,s.heap.get? b=some o/\o.data=.fields vs
section
variable{e:Addr}
def Out.ne(o:Out X pins H s b)(a:s.heap.get? c=some oc)(nf: ∀vs,oc.data≠.fields vs):c≠b:=λz=>by refine o.fld.d λh vs d e=>?_;rw[z,d]at a;cases a;exact nf vs e
def Out.loc(o:Out X pins H s b)(I:↑2):X.env.locals≠b:=by refine I.loc.a λm g _=>?_;refine g.g λe es d h=>h.e λa c _=>?_;exact o.ne a λvs z=>by rw[c]at z;cases z
def HdA(A:Around)(H:Hp):Prop:= ∃e a u,A.handled=some (.ref e)/\H e=some (.frz a u)/\ ∃vs,a.data=.fields vs/\vs[2]? =some .none
end
end L2
namespace L2
namespace M
open PySem PySem.Spec PyProof.Rows
noncomputable def endF(i:Nat):Fl->Sto->R Fl
 |.next ρ,S=>.ok (.next (ρ.set i none)) S
 |.ret r,S=>.ok (.ret r) S
 |.brk ρ,S=>.ok (.brk (ρ.set i none)) S
 |.cont ρ,S=>.ok (.cont (ρ.set i none)) S
def Zn(d:C0)(i:Nat)(kn:Er->Sto->R Fl)(a:AY)(b:Rho):R Er->R Fl
 |.ok r S=>kn r S
 |.exc c fs S=>if c∈d then(noX (a (b.set i (some (.loc S.length))) (S++[.ins c fs]))).bind (endF i)else .no
 |.no=>.no
end M
end L2
namespace Srt
open PySem PyProof.Rows
def eP:Bool->Keyed->Array Keyed->Nat->Nat->Nat->StateT SortSt Sem (Option Nat):=sortPriv% PySem.Builtin.gallop
def jX:Nat->StateT SortSt Sem Unit:=sortPriv% PySem.Builtin.setMinGallop
def IC:Array Keyed->Array Keyed->StateT SortSt Sem (Array Keyed):=sortPriv% PySem.Builtin.mergeLo
def IE:Array Keyed->Array Keyed->StateT SortSt Sem (Array Keyed):=sortPriv% PySem.Builtin.mergeHi
section
def Py{st:σ}(h:Q ⟨⟩ x):wpS M A E s (set x) Q st:=by unfold wpS;rw[StateT.run_set];exact wP ⟨rfl,h⟩
def iE{st:σ}(h:Q () st):wpS M A E s (liftM (rule x)) Q st:=wpS_lift (Ğ ⟨rfl,h⟩)
end
end Srt
namespace Srt
variable{β:Type}{le:β->β->Prop}
structure Two(le:β->β->Prop)(T out xs ys:List β):Prop where
 hx:(out++xs).Pairwise le
 hy:(out++ys).Pairwise le
 pm:(out++(xs++ys)).Perm T
def Two.movexs(h:Two le T out (zs++xs) ys)(i: ∀z,z∈zs-> ∀y,y∈ys->le z y):Two le T (out++zs) xs ys:=by
 refine⟨by simpa only[aA]using h.hx,?_,by simpa only[aA]using h.pm⟩;have a:=ì.mp h.hx;have b:=ì.mp h.hy;have c:=ì.mp a.2.1;refine ì.mpr ⟨ì.mpr ⟨a.1,c.1,λx e y d=>a.2.2 x e y (ă _ d)⟩,b.2.1,λx e y d=>?_⟩
 cases ê.mp e with
 |inl q=>exact b.2.2 x q y d
 |inr q=>exact i x q y d
def Two.swap(h:Two le T out xs ys):Two le T out ys xs:=
 ⟨h.hy,h.hx,(List.Perm.append_left out List.perm_append_comm).trans h.pm⟩
def Two.moveys(h:Two le T out xs (zs++ys))(a: ∀z,z∈zs-> ∀x,x∈xs->le z x):Two le T (out++zs) xs ys:=
 (h.swap.movexs a).swap
def Two.fin(h:Two le T out xs ys)(e: ∀x,x∈xs-> ∀y,y∈ys->le x y):(out++xs++ys).Pairwise le/\(out++xs++ys).Perm T:=by
 have a:=ì.mp h.hx;have b:=ì.mp h.hy;refine⟨ì.mpr ⟨h.hx,b.2.1,λx d y c=>?_⟩,by rw[aA];exact h.pm⟩
 cases ê.mp d with
 |inl q=>exact b.2.2 x q y c
 |inr q=>exact e x q y c
structure TwoR(le:β->β->Prop)(T xs ys R:List β):Prop where
 hx:(xs++R).Pairwise le
 hy:(ys++R).Pairwise le
 pm:(xs++ys++R).Perm T
def TwoR.swap(h:TwoR le T xs ys R):TwoR le T ys xs R:=
 ⟨h.hy,h.hx,(List.Perm.append_right R List.perm_append_comm).trans h.pm⟩
def TwoR.moveys(h:TwoR le T xs (ys++zs) R)(i: ∀x,x∈xs-> ∀z,z∈zs->le x z):TwoR le T xs ys (zs++R):=by
 refine⟨?_,by simpa only[aA]using h.hy,by simpa only[aA]using h.pm⟩;have a:=ì.mp h.hx;have b:=ì.mp h.hy;have c:=ì.mp b.1;refine ì.mpr ⟨a.1,ì.mpr ⟨c.2.1,a.2.1,λz j y d=>b.2.2 z (õ _ j) y d⟩,λx e y d=>?_⟩
 cases ê.mp d with
 |inl q=>exact i x e y q
 |inr q=>exact a.2.2 x e y q
def TwoR.movexs(h:TwoR le T (xs++zs) ys R)(a: ∀y,y∈ys-> ∀z,z∈zs->le y z):TwoR le T xs ys (zs++R):=
 (h.swap.moveys a).swap
def TwoR.fin(h:TwoR le T xs ys R)(e: ∀x,x∈xs-> ∀y,y∈ys->le x y):(xs++ys++R).Pairwise le/\(xs++ys++R).Perm T:=by
 have a:=ì.mp h.hx;have b:=ì.mp h.hy;refine⟨ì.mpr ⟨ì.mpr ⟨a.1,b.1,e⟩,a.2.1,λx d y c=>?_⟩,h.pm⟩
 cases ê.mp d with
 |inl q=>exact a.2.2 x q y c
 |inr q=>exact b.2.2 x q y c
def IF(l:List β)(i k):l.drop i=(l.drop i).take k++l.drop (i+k):=by rw[<-List.drop_drop,Ň]
def IG(l:List β)(i k)(h:i<=k):l.take k=l.take i++(l.take k).drop i:=by have:=Ň i (l.take k);rw[List.take_take,min_eq_left h]at this;exact this.symm
end Srt
namespace Srt
open PySem PyProof.Rows
abbrev SM:=StateT SortSt Sem
noncomputable def bey(a:Bool)(x:Keyed)(v:Array Keyed)(b i:Nat):SM (Option Bool):=
 elem' v (b+i) >>= λy=>if a=true then lt' y x else lt' x y >>= λr=>pure (r.map λq=>!q)
abbrev G3:=Option (Option Nat)×Nat×Nat
noncomputable def gUp(f:Nat->SM (Option Bool))(n m h:Nat):SM G3:=
 forIn [0:n] ((none,0,1):G3) λ_ c=>
  if c.2.2>=m then pure (.done (none,c.2.1,c.2.2))else f (h+c.2.2) >>= λo=>match o with
   |some q=>if(!q)=true then pure (.done (none,c.2.1,c.2.2))else pure (.yield (none,c.2.2,2 * c.2.2+1))
   |_=>pure (.done (some none,c.2.1,c.2.2))
noncomputable def gDn(f:Nat->SM (Option Bool))(n m h:Nat):SM G3:=
 forIn [0:n] ((none,0,1):G3) λ_ c=>
  if c.2.2>=m then pure (.done (none,c.2.1,c.2.2))else f (h - c.2.2) >>= λo=>match o with
   |some q=>if q=true then pure (.done (none,c.2.1,c.2.2))else pure (.yield (none,c.2.2,2 * c.2.2+1))
   |_=>pure (.done (some none,c.2.1,c.2.2))
noncomputable def gBin(f:Nat->SM (Option Bool))(n lo hi:Nat):SM G3:=
 forIn [0:n] ((none,lo,hi):G3) λ_ c=>
  if c.2.1>=c.2.2 then pure (.done (none,c.2.1,c.2.2))else f (c.2.1+(c.2.2 - c.2.1) / 2) >>= λo=>match o with
   |some q=>if q=true then pure (.yield (none,c.2.1+(c.2.2 - c.2.1) / 2+1,c.2.2))else pure (.yield (none,c.2.1,c.2.1+(c.2.2 - c.2.1) / 2))
   |_=>pure (.done (some none,c.2.1,c.2.2))
def Zo(f:Nat->SM (Option Bool))(n lo hi:Nat):SM (Option Nat):=
 gBin f n lo hi >>= λc=>match c.1 with
  |some r=>pure r
  |none=>pure (some c.2.2)
def gal(f:Nat->SM (Option Bool))(n h:Nat):SM (Option Nat):=
 f h >>= λo=>match o with
  |some q=>if q=true then gUp f n (n - h) h >>= λc=>(match c.1 with
     |some r=>pure r
     |none=>Zo f n (h+c.2.1+1) (h+min c.2.2 (n - h)))
    else gDn f n (h+1) h >>= λc=>(match c.1 with
     |some r=>pure r
     |none=>Zo f n (h+1 - min c.2.2 (h+1)) (h - c.2.1))
  |_=>pure none
theorem IH(lf)(x)(v)(b n h):eP lf x v b n h=gal (bey lf x v b) n h:=by kernel_rfl
section
def Tells(M:Model)(A:Around)(E:VP)(s:œ)(st:SortSt)(f:Nat->SM (Option Bool))(p:Nat->Bool)(n:Nat):Prop:=
 ∀i,i<n-> ∀Q:Option Bool->SortSt->Prop,Q (some (p i)) st->wpS M A E s (f i) Q st
variable{st:SortSt}
theorem Zp(q:Tells M A E s st f p n)(u:h<n)(m:p h=true)
  (hq: ∀l o,l<o->h+l<n->p (h+l)=true->(n - h<=o\/(h+o<n/\p (h+o)=false))->Q (none,l,o) st):
  wpS M A E s (gUp f n (n - h) h) Q st:=by
 refine Č (I:=λx c a=>a=st/\ ∃l o,c=(none,l,o)/\x+1<=o/\l<o/\h+l<n/\p (h+l)=true) ?_ ?_ ⟨rfl,0,1,rfl,by lia,by lia,by lia,m⟩
 .rintro x c a _ r ⟨rfl,l,o,rfl,k,e,i,d⟩;dsimp only;by_cases b:o>=n - h
  .rw[iP b];exact wpS_pure (hq l o e i d (.inl b))
  .rw[iN b];refine wpS_bind (q _ #[0] _ ?_)
   cases j:p _ with
   |false=>exact wpS_pure (hq l o e i d (.inr ⟨by lia,j⟩))
   |true=>exact wpS_pure ⟨rfl,o,2 * o+1,rfl,by lia,by lia,by lia,j⟩
 .rintro c a ⟨rfl,l,o,rfl,k,e,i,d⟩;exact hq l o e i d (.inl #[0])
theorem Zq(q:Tells M A E s st f p n)(u:h<n)(m:p h=false)
  (hq: ∀l o,l<o->l<=h->p (h - l)=false->(h+1<=o\/(o<=h/\p (h - o)=true))->Q (none,l,o) st):
  wpS M A E s (gDn f n (h+1) h) Q st:=by
 refine Č (I:=λx c a=>a=st/\ ∃l o,c=(none,l,o)/\x+1<=o/\l<o/\l<=h/\p (h - l)=false) ?_ ?_ ⟨rfl,0,1,rfl,by lia,by lia,by lia,m⟩
 .rintro x c a _ r ⟨rfl,l,o,rfl,k,e,i,d⟩;by_cases b:o>=h+1
  .rw[iP b];exact wpS_pure (hq l o e i d (.inl b))
  .rw[iN b];refine wpS_bind (q _ #[0] _ ?_)
   cases j:p _ with
   |true=>exact wpS_pure (hq l o e i d (.inr ⟨by lia,j⟩))
   |false=>exact wpS_pure ⟨rfl,o,2 * o+1,rfl,by lia,by lia,by lia,j⟩
 .rintro c a ⟨rfl,l,o,rfl,k,e,i,d⟩;exact hq l o e i d (.inl #[0])
theorem ZQ{lo:Nat}(v:Tells M A E s st f p n)(hm: ∀i j,i<=j->j<n->p j=true->p i=true)
  (h1:lo<=hi) (h2:hi<=n) (h3: ∀i,i<lo->p i=true) (h4: ∀i,hi<=i->i<n->p i=false)
  (hq: ∀r,r<=n->(∀i,i<r->p i=true)->(∀i,r<=i->i<n->p i=false)->Q (some r) st):
  wpS M A E s (Zo f n lo hi) Q st:=by
 refine wpS_bind (wpS_mono (Č (I:=λx c a=>a=st/\ ∃l r,c=(none,l,r)/\l<=r/\r<=n/\r - l<=n - x/\(∀i,i<l->p i=true)/\(∀i,r<=i->i<n->p i=false))
  (Q:=λc a=>a=st/\ ∃l r,c=(none,l,r)/\r<=n/\(∀i,i<r->p i=true)/\(∀i,r<=i->i<n->p i=false)) ?_ ?_ ⟨rfl,lo,hi,rfl,h1,h2,by lia,h3,h4⟩) ?_)
 .rintro x c a _ y ⟨rfl,l,r,rfl,u,e,w,b,d⟩;by_cases h:l>=r
  .rw[iP h];have:l=r:=by lia
   subst this;exact wpS_pure ⟨rfl,l,l,rfl,e,b,d⟩
  .rw[iN h];refine wpS_bind (v _ #[0] _ ?_)
   cases o:p _ with
   |true=>exact wpS_pure ⟨rfl,_,r,rfl,by lia,e,by lia,λi hi=>hm i _ #[0] #[0] o,d⟩
   |false=>
    refine wpS_pure ⟨rfl,l,_,rfl,by lia,by lia,by lia,b,λi q k=>?_⟩
    cases m:p i with
    |false=>rfl
    |true=>rw[hm _ i q k m]at o;cases o
 .rintro c a ⟨rfl,l,r,rfl,u,e,w,b,d⟩;have:l=r:=by lia
  subst this;exact⟨rfl,l,l,rfl,e,b,d⟩
 .rintro c a ⟨rfl,l,r,rfl,e,b,d⟩;exact wpS_pure (hq r e b d)
theorem Ie(c:Tells M A E s st f p n)(hm: ∀i j,i<=j->j<n->p j=true->p i=true)(m:h<n)
  (hq: ∀r,r<=n->(∀i,i<r->p i=true)->(∀i,r<=i->i<n->p i=false)->Q (some r) st):
  wpS M A E s (gal f n h) Q st:=by
 have hn: ∀i j,i<=j->j<n->p i=false->p j=false:=by
  intro i j k d b
  cases v:p j with
  |false=>rfl
  |true=>rw[hm i j k d v]at b;cases b
 refine wpS_bind (c h m _ ?_)
 cases q:p h with
 |true=>
  refine wpS_bind (Zp c m q λl o k d b a=>?_);dsimp only;refine ZQ c hm (by omega) (by omega) (λi hi=>hm i _ #[0] d b) (λi u e=>?_) hq;rcases a with a|⟨a,h7⟩
  .omega
  .exact hn _ i (by omega) e h7
 |false=>
  refine wpS_bind (Zq c m q λl o k d b a=>?_);dsimp only;refine ZQ c hm (by omega) (by omega) (λi hi=>?_) (λi u e=>hn _ i u e b) hq;rcases a with a|⟨a,h7⟩
  .omega
  .exact hm i _ (by omega) (by omega) h7
end
end Srt
namespace Srt
open PySem PyProof.Rows
def kI{β:Type}{l:List β}{z:β}(h:z∈l.drop i): ∃j,i+j<l.length/\l[i+j]? =some z:=by refine V0 λb=>?_;obtain⟨j,a,e⟩:=List.mem_iff_getElem.mp h;rw[ą]at a;refine b ?_;refine⟨j,by omega,?_⟩;rw[getElem_drop]at e;rw[<-e,gE (by omega)]
def AI{β:Type}{l:List β}{z:β}(h:z∈(l.drop i).take k): ∃j,j<k/\i+j<l.length/\l[i+j]? =some z:=by refine V0 λb=>?_;obtain⟨j,a,e⟩:=List.mem_iff_getElem.mp h;rw[lT,ą]at a;refine b ?_;refine ZB j (by omega) (by omega) ?_;rw[getElem_take,getElem_drop]at e;rw[<-e,gE (by omega)]
theorem mH{β:Type}{l:List β}{z:β}(h:z∈l.take k): ∃j,j<k/\j<l.length/\l[j]? =some z:=by refine V0 λb=>?_;obtain⟨j,a,e⟩:=List.mem_iff_getElem.mp h;rw[lT]at a;refine b ?_;refine ZB j (by lia) (by lia) ?_;rw[getElem_take]at e;rw[<-e,gE #[0]]
section
variable{M:Model}{A:Around}{E:VP}{s:œ}
structure Cmp(M:Model)(A:Around)(E:VP)(s:œ)(kd:SortKind)(D:Keyed->Prop)(lt:Keyed->Keyed->Bool):Prop where
 go: ∀x y,D x->D y-> ∀st:SortSt,kindOf st=kd-> ∀Q:Option Bool->SortSt->Prop,Q (some (lt x y)) st->wpS M A E s (lt' x y) Q st
 tr: ∀x y z,lt y x=false->lt z y=false->lt z x=false
 as: ∀x y,lt x y=true->lt y x=false
abbrev Le(lt:↑7)(x y:Keyed):Prop:=lt y x=false
def Cmp.rf(C:↑16)(x):Le lt x x:=by
 show lt x x=false
 cases h:lt x x with
 |false=>rfl
 |true=>exact absurd h (by rw[C.as x x h];simp)
def SL(lt:↑7)(l:List Keyed)(b n:Nat):Prop:= ∀i j x y,i<=j->j<n->l[b+i]? =some x->l[b+j]? =some y->lt y x=false
def yF{st:SortSt}(e:v.toList[i]? =some x)(h:Q x st):wpS M A E s (elem' v i) Q st:=by
 rw[elem'_eq];have:v[i]? =some x:=by rw[<-ð];exact e
 rw[this];exact wpS_pure h
def wR{v:Array Keyed}(h:i<v.size): ∃x,v.toList[i]? =some x:=⟨v.toList[i]'(by simpa using h),gE _⟩
noncomputable def pB(lt:↑7)(a:Bool)(x:Keyed)(l:List Keyed)(b i:Nat):Bool:=(l[b+i]?).elim false λy=>if a=true then lt y x else !lt x y
theorem tells(C:↑16){st:SortSt}(h:kindOf st=kd)(j: ∀y,y∈v.toList->D y)(e:D x)(hn:b+n<=v.size)(lf):
  Tells M A E s st (bey lf x v b) (pB lt lf x v.toList b) n:=by
 intro i hi Q c;obtain⟨y,d⟩:=wR (v:=v) (i:=b+i) #[0];have a:=j y (è d);unfold pB at c;rw[d]at c;refine wpS_bind (yF d ?_)
 cases lf with
 |true=>exact C.go y x a e st h _ c
 |false=>
  show wpS M A E s _ Q st;exact wpS_bind (C.go x y e a st h _ (wpS_pure c))
theorem PL(C:↑16){st:SortSt}(u:kindOf st=kd)(F: ∀y,y∈v.toList->D y)(q:D x)(hn:b+n<=v.size)(w:h<n)
  (hs:SL lt v.toList b n) 
  (hq: ∀r,r<=n->(∀i y,i<r->v.toList[b+i]? =some y->lt x y=false)->(∀i y,r<=i->i<n->v.toList[b+i]? =some y->lt x y=true)->Q (some r) st):
  wpS M A E s (eP false x v b n h) Q st:=by
 rw[IH];refine Ie (tells C u F q hn false) (λi j d e c=>?_) w (λr d e c=>hq r d (λi y a m=>?_) (λi y a m B=>?_))
 .obtain⟨y,o⟩:=wR (v:=v) (i:=b+i) #[0];obtain⟨z,p⟩:=wR (v:=v) (i:=b+j) #[0];unfold pB at c ⊢;rw[p]at c;rw[o];have k:_=true:=c;show(!lt x y)=true;have:=hs i j y z d e o p;have a:=by simpa using k
  rw[C.tr y z x this a];rfl
 .have:=e i a;unfold pB at this;rw[m]at this;have h':_=true:=this;simpa using h'
 .have:=c i a m;unfold pB at this;rw[B]at this;have h':_=false:=this;simpa using h'
theorem PM(C:↑16){st:SortSt}(w:kindOf st=kd)(G: ∀y,y∈v.toList->D y)(u:D x)(hn:b+n<=v.size)(B:h<n)
  (hs:SL lt v.toList b n) 
  (hq: ∀r,r<=n->(∀i y,i<r->v.toList[b+i]? =some y->lt y x=true)->(∀i y,r<=i->i<n->v.toList[b+i]? =some y->lt y x=false)->Q (some r) st):
  wpS M A E s (eP true x v b n h) Q st:=by
 rw[IH];refine Ie (tells C w G u hn true) (λi j c d a=>?_) B (λr c d a=>hq r c (λi y k m=>?_) (λi y k m F=>?_))
 .obtain⟨y,p⟩:=wR (v:=v) (i:=b+i) #[0];obtain⟨z,q⟩:=wR (v:=v) (i:=b+j) #[0];unfold pB at a ⊢;rw[q]at a;rw[p];have e:lt z x=true:=a;show lt y x=true;have:=hs i j y z c d p q
  cases o:lt y x with
  |true=>rfl
  |false=>exact absurd e (by rw[C.tr x y z o this];simp)
 .have:=d i k;unfold pB at this;rw[m]at this;exact this
 .have:=a i k m;unfold pB at this;rw[F]at this;exact this
end
end Srt
namespace Srt
open PySem PyProof.Rows
abbrev V:=Array Keyed
abbrev L5:=Option V×V×Nat×Nat×Nat
abbrev L6:=Option V×V×Nat×Nat×Nat×Nat
abbrev L7:=Option V×V×Nat×Nat×Nat×Nat×Nat
noncomputable abbrev Fe(a b o:V)(i j:Nat):V:=o++a.extract i a.size++b.extract j b.size
noncomputable abbrev M6(a b o:V)(i j:Nat):V:=o++b.extract j b.size++a.extract i a.size
def Y3(a b:V)(g:Nat)(c:L6):SM (ForInStep L6):=
 elem' b c.2.2.2.1 >>= λy=>elem' a c.2.2.1 >>= λx=>lt' y x >>= λr=>match r with
  |some q=>if q=true then elem' b c.2.2.2.1 >>= λy=>
     if(c.2.2.2.1+1==b.size)=true then pure (.done (some (Fe a b (c.2.1.push y) c.2.2.1 (c.2.2.2.1+1)),c.2.1.push y,c.2.2.1,c.2.2.2.1+1,0,c.2.2.2.2.2+1))
     else if c.2.2.2.2.2+1>=g then pure (.done (none,c.2.1.push y,c.2.2.1,c.2.2.2.1+1,0,c.2.2.2.2.2+1))
     else pure (.yield (none,c.2.1.push y,c.2.2.1,c.2.2.2.1+1,0,c.2.2.2.2.2+1))
    else elem' a c.2.2.1 >>= λx=>
     if(c.2.2.1+1+1==a.size)=true then pure (.done (some (M6 a b (c.2.1.push x) (c.2.2.1+1) c.2.2.2.1),c.2.1.push x,c.2.2.1+1,c.2.2.2.1,c.2.2.2.2.1+1,0))
     else if c.2.2.2.2.1+1>=g then pure (.done (none,c.2.1.push x,c.2.2.1+1,c.2.2.2.1,c.2.2.2.2.1+1,0))
     else pure (.yield (none,c.2.1.push x,c.2.2.1+1,c.2.2.2.1,c.2.2.2.2.1+1,0))
  |_=>pure (.done (some (Fe a b c.2.1 c.2.2.1 c.2.2.2.1),c.2.1,c.2.2.1,c.2.2.2.1,c.2.2.2.2.1,c.2.2.2.2.2))
def in1(a b:V)(t g:Nat)(c:L6):SM L6:=forIn [0:t] c λ_ c=>Y3 a b g c
def Zr(a b o:V)(i j g p q:Nat):SM (ForInStep L7):=
 elem' a i >>= λx=>if(i+1+1==a.size)=true then pure (.done (some (M6 a b (o.push x) (i+1) j),o.push x,i+1,j,g,p,q))
  else if(decide (p<7)&&decide (q<7))=true then pure (.done (none,o.push x,i+1,j,g,p,q))else pure (.yield (none,o.push x,i+1,j,g,p,q))
def Zs(a b o:V)(i j g p q:Nat):SM (ForInStep L7):=
 elem' b j >>= λy=>if(j+1==b.size)=true then pure (.done (some (Fe a b (o.push y) i (j+1)),o.push y,i,j+1,g,p,q))
  else elem' a i >>= λx=>eP true x b (j+1) (b.size - (j+1)) 0 >>= λr=>match r with
   |some k=>if k>0 then
      if(j+1+k==b.size)=true then pure (.done (some (Fe a b (o.push y++b.extract (j+1) (j+1+k)) i (j+1+k)),o.push y++b.extract (j+1) (j+1+k),i,j+1+k,g,p,k))
      else Zr a b (o.push y++b.extract (j+1) (j+1+k)) i (j+1+k) g p k
     else Zr a b (o.push y) i (j+1) g p k
   |_=>pure (.done (some (Fe a b (o.push y) i (j+1)),o.push y,i,j+1,g,p,q))
def Zt(a b o:V)(i j g p q:Nat):SM (ForInStep L7):=
 jX g >>= λ_=>elem' b j >>= λy=>eP false y a i (a.size - i) 0 >>= λr=>match r with
  |some k=>if k>0 then
     if(i+k+1==a.size)=true then pure (.done (some (M6 a b (o++a.extract i (i+k)) (i+k) j),o++a.extract i (i+k),i+k,j,g,k,q))
     else if(i+k==a.size)=true then pure (.done (some (Fe a b (o++a.extract i (i+k)) (i+k) j),o++a.extract i (i+k),i+k,j,g,k,q))
     else Zs a b (o++a.extract i (i+k)) (i+k) j g k q
    else Zs a b o i j g k q
  |_=>pure (.done (some (Fe a b o i j),o,i,j,g,p,q))
def in2(a b:V)(t:Nat)(c:L7):SM L7:=forIn [0:t] c λ_ c=>
 if c.2.2.2.2.1>1 then Zt a b c.2.1 c.2.2.1 c.2.2.2.1 (c.2.2.2.2.1 - 1) c.2.2.2.2.2.1 c.2.2.2.2.2.2
 else Zt a b c.2.1 c.2.2.1 c.2.2.2.1 c.2.2.2.2.1 c.2.2.2.2.2.1 c.2.2.2.2.2.2
def Y4(a b:V)(t:Nat)(c:L5):SM L5:=forIn [0:t] c λ_ c=>
 in1 a b t c.2.2.2.2 (none,c.2.1,c.2.2.1,c.2.2.2.1,0,0) >>= λd=>match d.1 with
  |some r=>pure (.done (some r,d.2.1,d.2.2.1,d.2.2.2.1,c.2.2.2.2))
  |none=>liftM (rule "list.sort.gallop") >>= λ_=>in2 a b t (none,d.2.1,d.2.2.1,d.2.2.2.1,c.2.2.2.2+1,d.2.2.2.2.1,d.2.2.2.2.2) >>= λe=>match e.1 with
   |some r=>pure (.done (some r,e.2.1,e.2.2.1,e.2.2.2.1,e.2.2.2.2.1))
   |none=>jX (e.2.2.2.2.1+1) >>= λ_=>pure (.yield (none,e.2.1,e.2.2.1,e.2.2.2.1,e.2.2.2.2.1+1))
def mLo(a b:V):SM V:=
 liftM (rule "list.sort.merge-lo") >>= λ_=>elem' b 0 >>= λy=>if(1==b.size)=true then pure (Fe a b #[y] 0 1)
  else if(0+1==a.size)=true then pure (M6 a b #[y] 0 1)
  else get >>= λst=>Y4 a b (a.size+b.size) (none,#[y],0,1,gallopOf st) >>= λc=>match c.1 with
   |some r=>pure r
   |none=>liftM (unsupported "internal:list.sort.merge-bound")
theorem TC(a b):IC a b=mLo a b:=by kernel_rfl
end Srt
namespace Srt
open PySem PyProof.Rows
def EC(v:V)(i):(v.extract i v.size).toList=v.toList.drop i:=by rw[Array.toList_extract];exact ĉ (by simp)
def PN(v:V)(i k):(v.extract i (i+k)).toList=(v.toList.drop i).take k:=by rw[Array.toList_extract,List.extract_eq_take_drop,Nat.add_sub_cancel_left]
def Sg(st a:SortSt):Prop:= ∃g,a=SortSt.mk' (kindOf st) (arrOf st) (pendingOf st) g (failedOf st)
def Sg.refl(st):Sg st st:=⟨gallopOf st,rfl⟩
theorem Sg.kind{st:SortSt}(h:Sg st st'):kindOf st'=kindOf st:=by obtain⟨g,rfl⟩:=h;rfl
section
variable{M:Model}{A:Around}{E:VP}{s:œ}{kd:SortKind}{D:Keyed->Prop}{lt:↑7}{a b:V}
def GU{st:SortSt}(h:Sg st j)(a: ∀j,Sg st j->Q () j):wpS M A E s (jX g) Q j:=by obtain⟨b,rfl⟩:=h;exact wpS_modify (a _ ⟨g,rfl⟩)
abbrev TwoA(lt:↑7)(a b o:V)(i j:Nat):Prop:=Two (Le lt) ↑52 o.toList (a.toList.drop i) (b.toList.drop j)
def FinA(lt:↑7)(a b r:V):Prop:=r.toList.Pairwise (Le lt)/\r.toList.Perm ↑52
def PQ{β:Type}{l:List β}{x:β}(h:l[i]? =some x):l.drop i=x::l.drop (i+1):=by obtain⟨hi,e⟩:=gS.mp h;rw[<-e];exact ĭ hi
def heads{β:Type}{le:β->β->Prop}(rf: ∀x,le x x){l:List β}{x:β}(h:(l.drop i).Pairwise le)(e:l[i]? =some x): ∀z,z∈l.drop i->le x z:=by
 rw[PQ e]at h ⊢;intro z a
 cases a with
 |head=>exact rf x
 |tail _ a=>exact(List.pairwise_cons.mp h).1 z a
def TwoA.sa(h:↑51):(a.toList.drop i).Pairwise (Le lt):=(ì.mp h.hx).2.1
def TwoA.sb(h:↑51):(b.toList.drop j).Pairwise (Le lt):=(ì.mp h.hy).2.1
theorem ZR(h:(l.drop i).Pairwise (Le lt))(rf: ∀x,Le lt x x):SL lt l i n:=by
 intro p q x y k o b a;by_cases e:p=q
 .subst e;rw[b]at a;cases a;exact rf x
 .obtain⟨m,d⟩:=gS.mp b;obtain⟨j,c⟩:=gS.mp a;have:=List.pairwise_iff_getElem.mp h p q (by refine qq ą ?_;omega) (by refine qq ą ?_;omega) #[0];rw[getElem_drop,getElem_drop,d,c]at this;exact this
def TwoA.pushB(h:↑51)(e:b.toList[j]? =some y)(d: ∀x,x∈a.toList.drop i->Le lt y x):TwoA lt a b (o.push y) i (j+1):=by
 have h':Two (Le lt) ↑52 o.toList (a.toList.drop i) ([y]++b.toList.drop (j+1)):=by rw[show [y]++b.toList.drop _=b.toList.drop j from(PQ e).symm];exact h
 have:=h'.moveys λz k x c=>by rw[mS.mp k];exact d x c
 show Two _ _ (o.push y).toList _ _;rw[Array.toList_push];exact this
def TwoA.pushA(h:↑51)(e:a.toList[i]? =some x)(c: ∀y,y∈b.toList.drop j->Le lt x y):TwoA lt a b (o.push x) (i+1) j:=by
 have h':Two (Le lt) ↑52 o.toList ([x]++a.toList.drop (i+1)) (b.toList.drop j):=by rw[show [x]++a.toList.drop _=a.toList.drop i from(PQ e).symm];exact h
 have:=h'.movexs λz d y k=>by rw[mS.mp d];exact c y k
 show Two _ _ (o.push x).toList _ _;rw[Array.toList_push];exact this
def TwoA.cutA(h:↑51)(c: ∀n z,n<k->a.toList[i+n]? =some z-> ∀y,y∈b.toList.drop j->Le lt z y):TwoA lt a b (o++a.extract i (i+k)) (i+k) j:=by
 have h':Two (Le lt) ↑52 o.toList ((a.toList.drop i).take k++a.toList.drop (i+k)) (b.toList.drop j):=by rw[<-IF];exact h
 have:=h'.movexs λz p y m=>by refine(AI p).b λn d _ e=>?_;exact c n z d e y m
 show Two _ _ (o++a.extract i _).toList _ _;rw[ý,PN];exact this
def TwoA.cutB(h:↑51)(c: ∀n z,n<k->b.toList[j+n]? =some z-> ∀x,x∈a.toList.drop i->Le lt z x):TwoA lt a b (o++b.extract j (j+k)) i (j+k):=by
 have h':Two (Le lt) ↑52 o.toList (a.toList.drop i) ((b.toList.drop j).take k++b.toList.drop (j+k)):=by rw[<-IF];exact h
 have:=h'.moveys λz p y m=>by refine(AI p).b λn d _ e=>?_;exact c n z d e y m
 show Two _ _ (o++b.extract j _).toList _ _;rw[ý,PN];exact this
def TwoA.dnB(h:↑51)(d:b.size<=j):FinA lt a b (Fe a b o i j):=by
 have e:(Fe a b o i j).toList=o.toList++a.toList.drop i++b.toList.drop j:=by rw[ý,ý,EC,EC]
 unfold FinA;rw[e];exact h.fin λx _ y c=>by rw[drop_of_length_le ↑49]at c;cases c
def TwoA.dnA(h:↑51)(hi:a.size<=i):FinA lt a b (Fe a b o i j):=by
 have e:(Fe a b o i j).toList=o.toList++a.toList.drop i++b.toList.drop j:=by rw[ý,ý,EC,EC]
 unfold FinA;rw[e];exact h.fin λx c y _=>by rw[drop_of_length_le (by simpa using hi)]at c;cases c
theorem TwoA.la(h:↑51)(hi:i+1=a.size)(hz: ∀x y,a.toList[a.size - 1]? =some x->y∈b.toList->Le lt y x):FinA lt a b (M6 a b o i j):=by
 have e:(M6 a b o i j).toList=o.toList++b.toList.drop j++a.toList.drop i:=by rw[ý,ý,EC,EC]
 unfold FinA;rw[e];refine h.swap.fin λy k x c=>?_;refine(kI c).a λn p d=>?_;have m:a.toList.length=a.size:=by simp
 exact hz x y (by rw[show a.size - 1=i+n by lia];exact d) (List.mem_of_mem_drop k)
def TwoA.len(h:↑51):o.size+((a.size - i)+(b.size - j))=a.size+b.size:=by have:=h.pm.length_eq;simpa [lA,ą]using this
def I1(lt:↑7)(a b o:V)(i j:Nat):Prop:=i+1<a.size/\j<b.size/\TwoA lt a b o i j
structure Set2(M:Model)(A:Around)(E:VP)(s:œ)(kd:SortKind)(D:Keyed->Prop)(lt:Keyed->Keyed->Bool)(a b:V):Prop where
 C:Cmp M A E s kd D lt
 da: ∀x,x∈a.toList->D x
 db: ∀x,x∈b.toList->D x
 lst: ∀x y,a.toList[a.size - 1]? =some x->y∈b.toList->Le lt y x
def N6(lt:↑7)(a b:V)(n:Nat)(c:L6):Prop:= ∃o i j p q,c=(none,o,i,j,p,q)/\I1 lt a b o i j/\n<=o.size
def P6(lt:↑7)(a b:V)(n:Nat)(c:L6):Prop:=(∃r e,c=(some r,e)/\FinA lt a b r)\/N6 lt a b n c
def N7(lt:↑7)(a b:V)(n:Nat)(c:L7):Prop:= ∃o i j g p q,c=(none,o,i,j,g,p,q)/\I1 lt a b o i j/\n<=o.size
def P7(lt:↑7)(a b:V)(n:Nat)(c:L7):Prop:=(∃r e,c=(some r,e)/\FinA lt a b r)\/N7 lt a b n c
theorem Pz(Z:↑69){st:SortSt}(F:kindOf st=kd)(h:I1 lt a b o i j)
  (hd: ∀c,P6 lt a b (o.size+1) c->Q (.done c) st) (hy: ∀c,N6 lt a b (o.size+1) c->Q (.yield c) st):wpS M A E s (Y3 a b g (none,o,i,j,p,q)) Q st:=by
 refine V0 λJ=>?_;refine h.e λG B u=>?_;obtain⟨y,e⟩:=wR B;obtain⟨x,m⟩:=wR (v:=a) (i:=i) #[0];have I:=heads Z.C.rf u.sb e;have H:=heads Z.C.rf u.sa m;refine J ?_;refine wpS_bind (yF e (wpS_bind (yF m (wpS_bind (Z.C.go y x (Z.db y (è e)) (Z.da x (è m)) st F _ ?_)))))
 cases r:lt y x with
 |true=>
  have k:=u.pushB e λz w=>Z.C.tr y x z (Z.C.as y x r) (H z w);have hs:(o.push y).size=o.size+1:=ġ ..;refine wpS_bind (yF e ?_);by_cases d:j+1=b.size
  .rw[iP ↑49];exact wpS_pure (hd _ (.inl (YS _ _ rfl (k.dnB #[0]))))
  .rw[iN ↑49];have n:I1 lt a b _ i _:=⟨G,by lia,k⟩
   split
   .exact wpS_pure (hd _ (.inr ⟨_,_,_,_,_,rfl,n,by lia⟩))
   .exact wpS_pure (hy _ ⟨_,_,_,_,_,rfl,n,by lia⟩)
 |false=>
  have k:=u.pushA m λz w=>Z.C.tr x y z r (I z w);have hs:(o.push x).size=o.size+1:=ġ ..;refine wpS_bind (yF m ?_);by_cases d:i+1+1=a.size
  .rw[iP ↑49];exact wpS_pure (hd _ (.inl (YS _ _ rfl (k.la d Z.lst))))
  .rw[iN ↑49];have n:I1 lt a b _ _ j:=⟨by lia,B,k⟩
   split
   .exact wpS_pure (hd _ (.inr ⟨_,_,_,_,_,rfl,n,by lia⟩))
   .exact wpS_pure (hy _ ⟨_,_,_,_,_,rfl,n,by lia⟩)
theorem N6.mono(h:N6 lt a b n c)(e:m<=n):N6 lt a b m c:=by refine h.p λo i j p q g=>g.e λd k r=>?_;exact WX o i j p q ⟨d,k,by lia⟩
def P6.mono(h:P6 lt a b n c)(e:m<=n):P6 lt a b m c:=h.imp id λh=>h.mono e
theorem Zu(Z:↑69){st:SortSt}(k:kindOf st=kd)(r:1<=t)(h:I1 lt a b o i j)
  (hq: ∀c,P6 lt a b (o.size+1) c->Q c st):wpS M A E s (in1 a b t g (none,o,i,j,0,0)) Q st:=by
 refine Č (I:=λx c d=>d=st/\N6 lt a b (o.size+x) c) ?_ ?_ ⟨rfl,o,i,j,0,0,rfl,h,by lia⟩
 .rintro x c d _ _ ⟨rfl,q,u,n,p,v,rfl,h',hn⟩;refine Pz Z k h' (λc e=>hq c (e.mono #[0])) (λc e=>⟨rfl,e.mono #[0]⟩)
 .rintro c d ⟨rfl,m⟩;exact hq c (.inr (m.mono #[0]))
theorem ZS(Z:↑69){st:SortSt}(u:i+1<a.size)(m:j<b.size)(r:↑51)
  (hl: ∀x,a.toList[i]? =some x-> ∀y,y∈b.toList.drop j->Le lt x y)  (hn:n<=o.size) 
  (hd: ∀c,P7 lt a b n c->Q (.done c) st) (hy: ∀c,N7 lt a b n c->Q (.yield c) st):wpS M A E s (Zr a b o i j g p q) Q st:=by
 obtain⟨x,e⟩:=wR (v:=a) (i:=i) #[0];have k:=r.pushA e (hl x e);have hs:(o.push x).size=o.size+1:=ġ ..;refine wpS_bind (yF e ?_);by_cases d:i+1+1=a.size
 .rw[iP ↑49];exact wpS_pure (hd _ (.inl (YS _ _ rfl (k.la d Z.lst))))
 .rw[iN ↑49];have h:I1 lt a b _ _ j:=⟨by lia,m,k⟩
  split
  .exact wpS_pure (hd _ (.inr ⟨_,_,_,_,_,_,rfl,h,by lia⟩))
  .exact wpS_pure (hy _ ⟨_,_,_,_,_,_,rfl,h,by lia⟩)
theorem ZT(Z:↑69){st:SortSt}(P:kindOf st=kd)(J:i+1<a.size)(S:j<b.size)(O:↑51)
  (hl: ∀y,b.toList[j]? =some y-> ∀x,x∈a.toList.drop i->Le lt y x)  (hn:n<=o.size) 
  (hd: ∀c,P7 lt a b n c->Q (.done c) st) (hy: ∀c,N7 lt a b n c->Q (.yield c) st):wpS M A E s (Zs a b o i j g p q) Q st:=by
 refine V0 λV=>?_;obtain⟨y,B⟩:=wR S;obtain⟨x,h⟩:=wR (v:=a) (i:=i) #[0];have u:=O.pushB B (hl y B);have hs:(o.push y).size=o.size+1:=ġ ..;have U:=heads Z.C.rf O.sa h;refine V ?_;refine wpS_bind (yF B ?_);by_cases H:j+1=b.size
 .rw[iP (by simpa using H)];exact wpS_pure (hd _ (.inl (YS _ _ rfl (u.dnB #[0]))))
 .rw[iN (by simpa using H)];refine wpS_bind (yF h (wpS_bind (PM Z.C P Z.db (Z.da x (è h)) #[0] #[0] (ZR u.sb Z.C.rf) λk Y X N=>?_)));dsimp only;by_cases I:k>0
  .rw[iP I];have L:=u.cutB λm z hm W r d=>Z.C.tr z x r (Z.C.as z x (X m z hm W)) (U r d);have T:(o.push y++b.extract (j+1) (j+1+k)).size>=o.size+1:=by rw[Array.size_append];lia
   by_cases K:j+1+k=b.size
   .rw[iP (by simpa using K)];exact wpS_pure (hd _ (.inl (YS _ _ rfl (L.dnB #[0]))))
   .rw[iN (by simpa using K)];refine ZS Z J #[0] L (λr d G e=>?_) #[0] hd hy;rw[h]at d;cases d;refine(kI e).a λm w F=>?_;rw[ï]at w;exact N (k+m) G #[0] #[0] (by rw[<-add_assoc];exact F)
  .rw[iN I];refine ZS Z J #[0] u (λr d G e=>?_) #[0] hd hy;rw[h]at d;cases d;refine(kI e).a λm w F=>?_;rw[ï]at w;exact N m G #[0] #[0] F
theorem ZU(Z:↑69){st:SortSt}(X:Sg st0 st)(T:kindOf st0=kd)(h:I1 lt a b o i j)(hn:n<=o.size)
   (hd: ∀c st,Sg st0 st->P7 lt a b n c->Q (.done c) st) (hy: ∀c st,Sg st0 st->N7 lt a b n c->Q (.yield c) st):
  wpS M A E s (Zt a b o i j g p q) Q st:=by
 refine h.e λU J F=>?_;obtain⟨y,w⟩:=wR J;have Y:=heads Z.C.rf F.sb w;refine wpS_bind (GU X λS e=>?_);have u:=e.kind.trans T;refine wpS_bind (yF w (wpS_bind (PL Z.C u Z.da (Z.db y (è w)) #[0] #[0] (ZR F.sa Z.C.rf) λk k1 k2 P=>?_)));dsimp only;by_cases N:k>0
 .rw[iP N];have K:=F.cutA λm z hm hz B d=>Z.C.tr z y B (k2 m z hm hz) (Y B d);have W:(o++a.extract i (i+k)).size>=o.size:=by rw[Array.size_append];lia
  by_cases H:i+k+1=a.size
  .rw[iP (by simpa using H)];exact wpS_pure (hd _ _ e (.inl (YS _ _ rfl (K.la H Z.lst))))
  .rw[iN (by simpa using H)];by_cases O:i+k=a.size
   .rw[iP (by simpa using O)];exact wpS_pure (hd _ _ e (.inl (YS _ _ rfl (K.dnA #[0]))))
   .rw[iN (by simpa using O)];refine ZT Z u #[0] J K (λB d G v=>?_) #[0] (λc r=>hd c _ e r) (λc r=>hy c _ e r);rw[w]at d;cases d;refine(kI v).a λm I L=>?_;rw[ï]at I;exact Z.C.as _ _ (P (k+m) G #[0] #[0] (by rw[<-add_assoc];exact L))
 .rw[iN N];refine ZT Z u U J F (λB d G v=>?_) hn (λc r=>hd c _ e r) (λc r=>hy c _ e r);rw[w]at d;cases d;refine(kI v).a λm I L=>?_;rw[ï]at I;exact Z.C.as _ _ (P m G #[0] #[0] L)
def Zv(Z:↑69){st:SortSt}(v:Sg st0 st)(r:kindOf st0=kd)(h:I1 lt a b o i j)(hn:n<=o.size)
   (hq: ∀c st,Sg st0 st->P7 lt a b n c->Q c st):wpS M A E s (in2 a b t (none,o,i,j,g,p,q)) Q st:=by
 refine Č (I:=λx c d=>Sg st0 d/\N7 lt a b n c) ?_ ?_ ⟨v,o,i,j,g,p,q,rfl,h,hn⟩
 .rintro x c d _ _ ⟨e,w,C,y,B,z,F,rfl,h',m⟩;split
  .exact ZU Z e r h' m (λc st hs k=>hq c st hs k) (λc st hs k=>⟨hs,k⟩)
  .exact ZU Z e r h' m (λc st hs k=>hq c st hs k) (λc st hs k=>⟨hs,k⟩)
 .rintro c d ⟨e,u⟩;exact hq c d e (.inr u)
theorem Zw(Z:↑69){st:SortSt}(K:kindOf st=kd)(sa:a.toList.Pairwise (Le lt))(sb:b.toList.Pairwise (Le lt))(W:1<=a.size)(U:1<=b.size)
  (h0: ∀x y,a.toList[0]? =some x->b.toList[0]? =some y->Le lt y x)
   (hq: ∀r m,Sg st m->FinA lt a b r->Q r m):wpS M A E s (IC a b) Q st:=by
 rw[TC];refine wpS_bind (iE ?_);obtain⟨y,q⟩:=wR (v:=b) (i:=0) #[0];obtain⟨x,H⟩:=wR (v:=a) (i:=0) #[0];have L:TwoA lt a b #[] 0 0:=⟨by simpa using sa,by simpa using sb,by simp⟩
 have u:=heads Z.C.rf L.sa H;have G:=L.pushB q λz O=>Z.C.tr y x z (h0 x y H q) (u z O);refine wpS_bind (yF q ?_);by_cases J:1=b.size
 .rw[iP (by simpa using J)];exact wpS_pure (hq _ _ (Sg.refl st) (G.dnB #[0]))
 .rw[iN (by simpa using J)];by_cases B:0+1=a.size
  .rw[iP (by simpa using B)];exact wpS_pure (hq _ _ (Sg.refl st) (G.la B Z.lst))
  .rw[iN (by simpa using B)];rw[27];refine wpS_bind (wpS_mono (Q:=λc m=>Sg st m/\ ∃r e,c=(some r,e)/\FinA lt a b r) ?_ ?_)
   .unfold Y4;refine Č (I:=λx c m=>Sg st m/\ ∃o i j g,c=(none,o,i,j,g)/\I1 lt a b o i j/\x+1<=o.size) ?_ ?_ ⟨Sg.refl st,_,_,_,_,rfl,⟨by lia,by lia,G⟩,by simp⟩
    .rintro n c m _ _ ⟨h,o,i,j,g,rfl,w,hn⟩;refine wpS_bind (Zu Z (h.kind.trans K) #[0] w λd T=>?_);rcases T with⟨r,e,rfl,k⟩|⟨o',i',j',p',q',rfl,hI',hn'⟩
     .exact wpS_pure ⟨h,r,_,rfl,k⟩
     .dsimp only;refine wpS_bind (iE ?_);refine wpS_bind (Zv Z h K hI' hn' λe N p P=>?_);rcases P with⟨r,e,rfl,k⟩|⟨o2,i2,j2,g2,p2,q2,rfl,hI2,hn2⟩
      .exact wpS_pure ⟨p,r,_,rfl,k⟩
      .dsimp only;refine wpS_bind (GU p λS F=>?_);exact wpS_pure ⟨F,o2,i2,j2,_,rfl,hI2,by lia⟩
    .rintro c m ⟨h,o,i,j,g,rfl,w,hn⟩;have:=w.2.2.len
     lia
   .rintro c m ⟨h,r,e,rfl,k⟩;exact wpS_pure (hq r m h k)
end
end Srt
namespace Srt
open PySem PyProof.Rows
abbrev H5:=Option V×Nat×Nat×V×Nat
abbrev H6:=Option V×Nat×Nat×V×Nat×Nat
abbrev H7:=Option V×Nat×Nat×V×Nat×Nat×Nat
noncomputable abbrev Mc(a b o:V)(i j:Nat):V:=a.extract 0 i++b.extract 0 j++o.reverse
noncomputable abbrev M7(a b o:V)(i j:Nat):V:=b.extract 0 j++a.extract 0 i++o.reverse
def Zx(a b:V)(g:Nat)(c:H6):SM (ForInStep H6):=
 elem' b (c.2.2.1 - 1) >>= λy=>elem' a (c.2.1 - 1) >>= λx=>lt' y x >>= λr=>match r with
  |some q=>if q=true then elem' a (c.2.1 - 1) >>= λx=>
     if(c.2.1 - 1==0)=true then pure (.done (some (Mc a b (c.2.2.2.1.push x) (c.2.1 - 1) c.2.2.1),c.2.1 - 1,c.2.2.1,c.2.2.2.1.push x,c.2.2.2.2.1+1,0))
     else if c.2.2.2.2.1+1>=g then pure (.done (none,c.2.1 - 1,c.2.2.1,c.2.2.2.1.push x,c.2.2.2.2.1+1,0))
     else pure (.yield (none,c.2.1 - 1,c.2.2.1,c.2.2.2.1.push x,c.2.2.2.2.1+1,0))
    else elem' b (c.2.2.1 - 1) >>= λy=>
     if(c.2.2.1 - 1==1)=true then pure (.done (some (M7 a b (c.2.2.2.1.push y) c.2.1 (c.2.2.1 - 1)),c.2.1,c.2.2.1 - 1,c.2.2.2.1.push y,0,c.2.2.2.2.2+1))
     else if c.2.2.2.2.2+1>=g then pure (.done (none,c.2.1,c.2.2.1 - 1,c.2.2.2.1.push y,0,c.2.2.2.2.2+1))
     else pure (.yield (none,c.2.1,c.2.2.1 - 1,c.2.2.2.1.push y,0,c.2.2.2.2.2+1))
  |_=>pure (.done (some (Mc a b c.2.2.2.1 c.2.1 c.2.2.1),c.2.1,c.2.2.1,c.2.2.2.1,c.2.2.2.2.1,c.2.2.2.2.2))
def Y5(a b:V)(t g:Nat)(c:H6):SM H6:=forIn [0:t] c λ_ c=>Zx a b g c
def zCB(a b o:V)(i j g p q:Nat):SM (ForInStep H7):=
 elem' a (i - 1) >>= λx=>if(i - 1==0)=true then pure (.done (some (Mc a b (o.push x) (i - 1) j),i - 1,j,o.push x,g,p,q))
  else if(decide (p<7)&&decide (q<7))=true then pure (.done (none,i - 1,j,o.push x,g,p,q))else pure (.yield (none,i - 1,j,o.push x,g,p,q))
def zCC(a b o:V)(i j g p q:Nat):SM (ForInStep H7):=
 elem' b (j - 1) >>= λy=>if(j - 1==1)=true then pure (.done (some (M7 a b (o.push y) i (j - 1)),i,j - 1,o.push y,g,p,q))
  else elem' a (i - 1) >>= λx=>eP true x b 0 (j - 1) (j - 1 - 1) >>= λr=>match r with
   |some k=>if j - 1 - k>0 then
      if(k==1)=true then pure (.done (some (M7 a b (o.push y++(b.extract k (j - 1)).reverse) i k),i,k,o.push y++(b.extract k (j - 1)).reverse,g,p,j - 1 - k))
      else if(k==0)=true then pure (.done (some (Mc a b (o.push y++(b.extract k (j - 1)).reverse) i k),i,k,o.push y++(b.extract k (j - 1)).reverse,g,p,j - 1 - k))
      else zCB a b (o.push y++(b.extract k (j - 1)).reverse) i k g p (j - 1 - k)
     else zCB a b (o.push y) i (j - 1) g p (j - 1 - k)
   |_=>pure (.done (some (Mc a b (o.push y) i (j - 1)),i,j - 1,o.push y,g,p,q))
def hw2(a b o:V)(i j g p q:Nat):SM (ForInStep H7):=
 jX g >>= λ_=>elem' b (j - 1) >>= λy=>eP false y a 0 i (i - 1) >>= λr=>match r with
  |some k=>if i - k>0 then
     if(k==0)=true then pure (.done (some (Mc a b (o++(a.extract k i).reverse) k j),k,j,o++(a.extract k i).reverse,g,i - k,q))
     else zCC a b (o++(a.extract k i).reverse) k j g (i - k) q
    else zCC a b o i j g (i - k) q
  |_=>pure (.done (some (Mc a b o i j),i,j,o,g,p,q))
def Y6(a b:V)(t:Nat)(c:H7):SM H7:=forIn [0:t] c λ_ c=>
 if c.2.2.2.2.1>1 then hw2 a b c.2.2.2.1 c.2.1 c.2.2.1 (c.2.2.2.2.1 - 1) c.2.2.2.2.2.1 c.2.2.2.2.2.2
 else hw2 a b c.2.2.2.1 c.2.1 c.2.2.1 c.2.2.2.2.1 c.2.2.2.2.2.1 c.2.2.2.2.2.2
def Y7(a b:V)(t:Nat)(c:H5):SM H5:=forIn [0:t] c λ_ c=>
 Y5 a b t c.2.2.2.2 (none,c.2.1,c.2.2.1,c.2.2.2.1,0,0) >>= λd=>match d.1 with
  |some r=>pure (.done (some r,d.2.1,d.2.2.1,d.2.2.2.1,c.2.2.2.2))
  |none=>liftM (rule "list.sort.gallop") >>= λ_=>Y6 a b t (none,d.2.1,d.2.2.1,d.2.2.2.1,c.2.2.2.2+1,d.2.2.2.2.1,d.2.2.2.2.2) >>= λe=>match e.1 with
   |some r=>pure (.done (some r,e.2.1,e.2.2.1,e.2.2.2.1,e.2.2.2.2.1))
   |none=>jX (e.2.2.2.2.1+1) >>= λ_=>pure (.yield (none,e.2.1,e.2.2.1,e.2.2.2.1,e.2.2.2.2.1+1))
def mHi(a b:V):SM V:=
 liftM (rule "list.sort.merge-hi") >>= λ_=>elem' a (a.size - 1) >>= λx=>if(a.size - 1==0)=true then pure (Mc a b #[x] (a.size - 1) b.size)
  else if(b.size==1)=true then pure (M7 a b #[x] (a.size - 1) b.size)
  else get >>= λst=>Y7 a b (a.size+b.size) (none,a.size - 1,b.size,#[x],gallopOf st) >>= λc=>match c.1 with
   |some r=>pure r
   |none=>liftM (unsupported "internal:list.sort.merge-bound")
theorem TD(a b):IE a b=mHi a b:=by kernel_rfl
theorem PR(v:V)(i):(v.extract 0 i).toList=v.toList.take i:=by rw[Array.toList_extract];rfl
def Zy(v:V)(t i):(v.extract t i).toList=(v.toList.take i).drop t:=by rw[Array.toList_extract,drop_take]
theorem AK{β:Type}{l:List β}{z:β}(h:z∈(l.take i).drop t): ∃n,t<=n/\n<i/\l[n]? =some z:=by refine(kI h).a λj b a=>?_;rw[lT]at b;rw[ı #[0]]at a;exact ZB (t+j) (by lia) (by lia) a
def GV{β:Type}{l:List β}{x:β}(h:l[i]? =some x):l.take (i+1)=l.take i++[x]:=by obtain⟨hi,e⟩:=gS.mp h;rw[<-e];exact(List.take_append_getElem hi).symm
def TF{β:Type}{le:β->β->Prop}(rf: ∀x,le x x){l:List β}{x:β}(h:(l.take (i+1)).Pairwise le)(e:l[i]? =some x): ∀z,z∈l.take (i+1)->le z x:=by
 rw[GV e]at h ⊢;intro z a;rcases ê.mp a with q|q
 .exact(ì.mp h).2.2 z q x (mS.mpr rfl)
 .rw[mS.mp q];exact rf x
section
variable{M:Model}{A:Around}{E:VP}{s:œ}{kd:SortKind}{D:Keyed->Prop}{lt:↑7}{a b:V}
theorem ZV(h:(l.take n).Pairwise (Le lt))(rf: ∀x,Le lt x x):SL lt l 0 n:=by
 intro p q x y j m b a;rw[Ă]at b a;by_cases e:p=q
 .subst e;rw[b]at a;cases a;exact rf x
 .obtain⟨k,d⟩:=gS.mp b;obtain⟨i,c⟩:=gS.mp a;have:=List.pairwise_iff_getElem.mp h p q (by rw[lT];lia) (by rw[lT];lia) #[0];rw[getElem_take,getElem_take,d,c]at this;exact this
abbrev TwoH(lt:↑7)(a b o:V)(i j:Nat):Prop:=TwoR (Le lt) ↑52 (a.toList.take i) (b.toList.take j) o.toList.reverse
def TwoH.sa(h:TwoH lt a b o i j):(a.toList.take i).Pairwise (Le lt):=(ì.mp h.hx).1
def TwoH.sb(h:TwoH lt a b o i j):(b.toList.take j).Pairwise (Le lt):=(ì.mp h.hy).1
def TwoH.pushA(h:TwoH lt a b o (i+1) j)(e:a.toList[i]? =some x)(c: ∀y,y∈b.toList.take j->Le lt y x):TwoH lt a b (o.push x) i j:=by
 have h':TwoR (Le lt) ↑52 (a.toList.take i++[x]) (b.toList.take j) o.toList.reverse:=by rw[<-GV e];exact h
 have:=h'.movexs λy k z d=>by rw[mS.mp d];exact c y k
 show TwoR _ _ _ _ (o.push x).toList.reverse;rw[Array.toList_push,List.reverse_append];exact this
def TwoH.pushB(h:TwoH lt a b o i (j+1))(e:b.toList[j]? =some y)(d: ∀x,x∈a.toList.take i->Le lt x y):TwoH lt a b (o.push y) i j:=by
 have h':TwoR (Le lt) ↑52 (a.toList.take i) (b.toList.take j++[y]) o.toList.reverse:=by rw[<-GV e];exact h
 have:=h'.moveys λx c z k=>by rw[mS.mp k];exact d x c
 show TwoR _ _ _ _ (o.push y).toList.reverse;rw[Array.toList_push,List.reverse_append];exact this
def ZW(o v:V)(t i):(o++(v.extract t i).reverse).toList.reverse=(v.toList.take i).drop t++o.toList.reverse:=by rw[ý,List.reverse_append,Array.toList_reverse,List.reverse_reverse,Zy]
def TwoH.cutA(p:t<=i)(h:TwoH lt a b o i j)(c: ∀n z,t<=n->n<i->a.toList[n]? =some z-> ∀y,y∈b.toList.take j->Le lt y z):TwoH lt a b (o++(a.extract t i).reverse) t j:=by
 have h':TwoR (Le lt) ↑52 (a.toList.take t++(a.toList.take i).drop t) (b.toList.take j) o.toList.reverse:=by rw[<-IG _ t i p];exact h
 have:=h'.movexs λy k z q=>by refine(AK q).b λn d e m=>?_;exact c n z d e m y k
 show TwoR _ _ _ _ (o++(a.extract t i).reverse).toList.reverse;rw[ZW];exact this
def TwoH.cutB(m:t<=j)(h:TwoH lt a b o i j)(d: ∀n z,t<=n->n<j->b.toList[n]? =some z-> ∀x,x∈a.toList.take i->Le lt x z):TwoH lt a b (o++(b.extract t j).reverse) i t:=by
 have h':TwoR (Le lt) ↑52 (a.toList.take i) (b.toList.take t++(b.toList.take j).drop t) o.toList.reverse:=by rw[<-IG _ t j m];exact h
 have:=h'.moveys λx c z q=>by refine(AK q).b λn e k p=>?_;exact d n z e k p x c
 show TwoR _ _ _ _ (o++(b.extract t j).reverse).toList.reverse;rw[ZW];exact this
def TwoH.dn(h:TwoH lt a b o i j)(hz:i=0\/j=0):FinA lt a b (Mc a b o i j):=by
 have e:(Mc a b o i j).toList=a.toList.take i++b.toList.take j++o.toList.reverse:=by rw[ý,ý,PR,PR,Array.toList_reverse]
 unfold FinA;rw[e];refine h.fin λx c y d=>?_;rcases hz with rfl|rfl
 .cases c
 .cases d
theorem TwoH.fb(h:TwoH lt a b o i 1)(hz: ∀x y,x∈a.toList->b.toList[0]? =some y->Le lt y x):FinA lt a b (M7 a b o i 1):=by
 have e:(M7 a b o i 1).toList=b.toList.take 1++a.toList.take i++o.toList.reverse:=by rw[ý,ý,PR,PR,Array.toList_reverse]
 unfold FinA;rw[e];refine h.swap.fin λy d x c=>?_;refine(mH d).b λn k m j=>?_;exact hz x y (mem_of_mem_take c) (by rw[show 0=n by lia];exact j)
theorem TwoH.len(h:TwoH lt a b o i j)(c:i<=a.size)(d:j<=b.size):o.size+(i+j)=a.size+b.size:=by
 have:=h.pm.length_eq;simp only[lA,lT,List.length_reverse,ï]at this
 lia
def J1(lt:↑7)(a b o:V)(i j:Nat):Prop:=1<=i/\i<=a.size/\2<=j/\j<=b.size/\TwoH lt a b o i j
structure Set3(M:Model)(A:Around)(E:VP)(s:œ)(kd:SortKind)(D:Keyed->Prop)(lt:Keyed->Keyed->Bool)(a b:V):Prop extends Set2 M A E s kd D lt a b where
 fst: ∀x y,x∈a.toList->b.toList[0]? =some y->Le lt y x
def R6(lt:↑7)(a b:V)(n:Nat)(c:H6):Prop:= ∃i j o p q,c=(none,i,j,o,p,q)/\J1 lt a b o i j/\n<=o.size
def S6(lt:↑7)(a b:V)(n:Nat)(c:H6):Prop:=(∃r e,c=(some r,e)/\FinA lt a b r)\/R6 lt a b n c
def R7(lt:↑7)(a b:V)(n:Nat)(c:H7):Prop:= ∃i j o g p q,c=(none,i,j,o,g,p,q)/\J1 lt a b o i j/\n<=o.size
def S7(lt:↑7)(a b:V)(n:Nat)(c:H7):Prop:=(∃r e,c=(some r,e)/\FinA lt a b r)\/R7 lt a b n c
theorem R6.mono(h:R6 lt a b n c)(e:m<=n):R6 lt a b m c:=by refine h.p λo i j p q g=>g.e λd k r=>?_;exact WX o i j p q ⟨d,k,by lia⟩
def S6.mono(h:S6 lt a b n c)(e:m<=n):S6 lt a b m c:=h.imp id λh=>h.mono e
theorem Qa(Z:↑68){st:SortSt}(F:kindOf st=kd)(h:J1 lt a b o i j)
  (hd: ∀c,S6 lt a b (o.size+1) c->Q (.done c) st) (hy: ∀c,R6 lt a b (o.size+1) c->Q (.yield c) st):wpS M A E s (Zx a b g (none,i,j,o,p,q)) Q st:=by
 refine h.n λG H L I w=>?_;obtain⟨i,rfl⟩: ∃k,i=k+1:=⟨i - 1,by lia⟩
 obtain⟨j,rfl⟩: ∃k,j=k+1:=⟨j - 1,by lia⟩
 obtain⟨y,e⟩:=wR (v:=b) (i:=j) #[0];obtain⟨x,n⟩:=wR (v:=a) (i:=i) #[0];have J:=TF Z.C.rf w.sb e;have K:=TF Z.C.rf w.sa n;unfold Zx;refine wpS_bind (yF e (wpS_bind (yF n (wpS_bind (Z.C.go y x (Z.db y (è e)) (Z.da x (è n)) st F _ ?_)))))
 cases u:lt y x with
 |true=>
  have m:=w.pushA n λz B=>Z.C.tr z y x (J z B) (Z.C.as y x u);have hs:(o.push x).size=o.size+1:=ġ ..;refine wpS_bind (yF n ?_);by_cases d:i=0
  .rw[iP ↑49];exact wpS_pure (hd _ (.inl (YS _ _ rfl (m.dn (.inl d)))))
  .rw[iN ↑49];have r:J1 lt a b _ i _:=⟨by lia,by lia,L,I,m⟩
   split
   .exact wpS_pure (hd _ (.inr ⟨_,_,_,_,_,rfl,r,by lia⟩))
   .exact wpS_pure (hy _ ⟨_,_,_,_,_,rfl,r,by lia⟩)
 |false=>
  have m:=w.pushB e λz B=>Z.C.tr z x y (K z B) u;have hs:(o.push y).size=o.size+1:=ġ ..;refine wpS_bind (yF e ?_);by_cases d:j=1
  .rw[iP ↑49];subst d;exact wpS_pure (hd _ (.inl (YS _ _ rfl (m.fb Z.fst))))
  .rw[iN ↑49];have r:J1 lt a b _ _ j:=⟨G,H,by lia,by lia,m⟩
   split
   .exact wpS_pure (hd _ (.inr ⟨_,_,_,_,_,rfl,r,by lia⟩))
   .exact wpS_pure (hy _ ⟨_,_,_,_,_,rfl,r,by lia⟩)
theorem Qb(Z:↑68){st:SortSt}(k:kindOf st=kd)(r:1<=t)(h:J1 lt a b o i j)
  (hq: ∀c,S6 lt a b (o.size+1) c->Q c st):wpS M A E s (Y5 a b t g (none,i,j,o,0,0)) Q st:=by
 refine Č (I:=λx c d=>d=st/\R6 lt a b (o.size+x) c) ?_ ?_ ⟨rfl,i,j,o,0,0,rfl,h,by lia⟩
 .rintro x c d _ _ ⟨rfl,u,n,q,p,v,rfl,h',hn⟩;refine Qa Z k h' (λc e=>hq c (e.mono #[0])) (λc e=>⟨rfl,e.mono #[0]⟩)
 .rintro c d ⟨rfl,m⟩;exact hq c (.inr (m.mono #[0]))
theorem Ig(Z:↑68){st:SortSt}(w:i+1<=a.size)(r:2<=j)(e:j<=b.size)(u:TwoH lt a b o (i+1) j)
  (hl: ∀x,a.toList[i]? =some x-> ∀y,y∈b.toList.take j->Le lt y x)  (hn:n<=o.size) 
  (hd: ∀c,S7 lt a b n c->Q (.done c) st) (hy: ∀c,R7 lt a b n c->Q (.yield c) st):wpS M A E s (zCB a b o (i+1) j g p q) Q st:=by
 obtain⟨x,h⟩:=wR (v:=a) (i:=i) #[0];have m:=u.pushA h (hl x h);have hs:(o.push x).size=o.size+1:=ġ ..;unfold zCB;refine wpS_bind (yF h ?_);by_cases d:i=0
 .rw[iP ↑49];exact wpS_pure (hd _ (.inl (YS _ _ rfl (m.dn (.inl d)))))
 .rw[iN ↑49];have k:J1 lt a b _ i j:=⟨by lia,by lia,r,e,m⟩
  split
  .exact wpS_pure (hd _ (.inr ⟨_,_,_,_,_,_,rfl,k,by lia⟩))
  .exact wpS_pure (hy _ ⟨_,_,_,_,_,_,rfl,k,by lia⟩)
theorem Ih(Z:↑68){st:SortSt}(hk:kindOf st=kd)(O:i+1<=a.size)(h2:1<=j)(aa:j+1<=b.size)(S:TwoH lt a b o (i+1) (j+1))
  (hl: ∀y,b.toList[j]? =some y-> ∀x,x∈a.toList.take (i+1)->Le lt x y)  (hn:n<=o.size) 
  (hd: ∀c,S7 lt a b n c->Q (.done c) st) (hy: ∀c,R7 lt a b n c->Q (.yield c) st):wpS M A E s (zCC a b o (i+1) (j+1) g p q) Q st:=by
 obtain⟨y,G⟩:=wR (v:=b) (i:=j) #[0];obtain⟨x,r⟩:=wR (v:=a) (i:=i) #[0];have B:=S.pushB G (hl y G);have hs:(o.push y).size=o.size+1:=ġ ..;have ha:=TF Z.C.rf S.sa r;unfold zCC;simp only[Nat.add_sub_cancel];refine wpS_bind (yF G ?_);by_cases H:j=1
 .rw[iP (by simpa using H)];subst H;exact wpS_pure (hd _ (.inl (YS _ _ rfl (B.fb Z.fst))))
 .rw[iN (by simpa using H)];refine wpS_bind (yF r (wpS_bind (PM Z.C hk Z.db (Z.da x (è r)) #[0] #[0] (ZV B.sb Z.C.rf) λk T k2 k3=>?_)));dsimp only;have u: ∀h,h∈b.toList.take k->Le lt h x:=by intro h e;refine(mH e).b λm U m2 X=>?_;exact Z.C.as _ _ (k2 m h U (by rw[Ă];exact X))
  by_cases P:j - k>0
  .rw[iP P];have J:=B.cutB T λm z N F Y w d=>Z.C.tr w x z (ha w d) (k3 m z N F (by rw[Ă];exact Y));have W:(o.push y++(b.extract k j).reverse).size>=o.size+1:=by rw[Array.size_append];lia
   by_cases I:k=1
   .rw[iP (by simpa using I)];subst I;exact wpS_pure (hd _ (.inl (YS _ _ rfl (J.fb Z.fst))))
   .rw[iN (by simpa using I)];by_cases L:k=0
    .rw[iP (by simpa using L)];exact wpS_pure (hd _ (.inl (YS _ _ rfl (J.dn (.inr L)))))
    .rw[iN (by simpa using L)];refine Ig Z O #[0] #[0] J (λw d h e=>?_) #[0] hd hy;rw[r]at d;cases d;exact u h e
  .rw[iN P];have K:k=j:=by lia
   cases K;refine Ig Z O #[0] #[0] B (λw d h e=>?_) #[0] hd hy;rw[r]at d;cases d;exact u h e
theorem Ii(Z:↑68){st:SortSt}(W:Sg st0 st)(hk:kindOf st0=kd)(h:J1 lt a b o i j)(hn:n<=o.size)
   (hd: ∀c st,Sg st0 st->S7 lt a b n c->Q (.done c) st) (hy: ∀c st,Sg st0 st->R7 lt a b n c->Q (.yield c) st):
  wpS M A E s (hw2 a b o i j g p q) Q st:=by
 refine h.n λh1 h2 h3 h4 I=>?_;obtain⟨j,rfl⟩: ∃k,j=k+1:=⟨j - 1,by lia⟩
 obtain⟨y,F⟩:=wR (v:=b) (i:=j) #[0];have hb:=TF Z.C.rf I.sb F;refine wpS_bind (GU W λaa e=>?_);have w:=e.kind.trans hk;refine wpS_bind (yF F (wpS_bind (PL Z.C w Z.da (Z.db y (è F)) #[0] #[0] (ZV I.sa Z.C.rf) λk S k2 k3=>?_)));dsimp only;have G: ∀u,u∈a.toList.take k->Le lt u y:=by intro u r;refine(mH r).b λm T m2 X=>?_;exact k2 m u T (by rw[Ă];exact X)
 by_cases O:i - k>0
 .rw[iP O];have P:=I.cutA S λm z N J Y H d=>Z.C.tr H y z (hb H d) (Z.C.as _ _ (k3 m z N J (by rw[Ă];exact Y)));have U:(o++(a.extract k i).reverse).size>=o.size:=by rw[Array.size_append];lia
  by_cases L:k=0
  .rw[iP (by simpa using L)];exact wpS_pure (hd _ _ e (.inl (YS _ _ rfl (P.dn (.inl L)))))
  .rw[iN (by simpa using L)];obtain⟨k,rfl⟩: ∃m,k=m+1:=⟨k - 1,by lia⟩
   refine Ih Z w #[0] #[0] #[0] P (λH d u r=>?_) #[0] (λc B=>hd c _ e B) (λc B=>hy c _ e B);rw[F]at d;cases d;exact G u r
 .rw[iN O];have K:k=i:=by lia
  subst K;obtain⟨k,rfl⟩: ∃m,k=m+1:=⟨k - 1,by lia⟩
  refine Ih Z w #[0] #[0] #[0] I (λH d u r=>?_) hn (λc B=>hd c _ e B) (λc B=>hy c _ e B);rw[F]at d;cases d;exact G u r
def Qc(Z:↑68){st:SortSt}(v:Sg st0 st)(r:kindOf st0=kd)(h:J1 lt a b o i j)(hn:n<=o.size)
   (hq: ∀c st,Sg st0 st->S7 lt a b n c->Q c st):wpS M A E s (Y6 a b t (none,i,j,o,g,p,q)) Q st:=by
 refine Č (I:=λx c d=>Sg st0 d/\R7 lt a b n c) ?_ ?_ ⟨v,i,j,o,g,p,q,rfl,h,hn⟩
 .rintro x c d _ _ ⟨e,C,y,w,B,z,F,rfl,h',m⟩;split
  .exact Ii Z e r h' m (λc st hs k=>hq c st hs k) (λc st hs k=>⟨hs,k⟩)
  .exact Ii Z e r h' m (λc st hs k=>hq c st hs k) (λc st hs k=>⟨hs,k⟩)
 .rintro c d ⟨e,u⟩;exact hq c d e (.inr u)
theorem Zz(Z:↑68){st:SortSt}(F:kindOf st=kd)(sa:a.toList.Pairwise (Le lt))(sb:b.toList.Pairwise (Le lt))(H:1<=a.size)(P:1<=b.size)
   (hq: ∀r m,Sg st m->FinA lt a b r->Q r m):wpS M A E s (IE a b) Q st:=by
 rw[TD];refine wpS_bind (iE ?_);obtain⟨x,C⟩:=wR (v:=a) (i:=a.size - 1) #[0]
 have G:TwoH lt a b #[] (a.size - 1+1) b.size:=by
  rw[Nat.sub_add_cancel H];refine⟨?_,?_,?_⟩
  .rw[ĉ (by simp)];simpa using sa
  .rw[ĉ (by simp)];simpa using sb
  .rw[ĉ (by simp),ĉ (by simp)];simp
 have u:=G.pushA C λy L=>Z.lst x y C (mem_of_mem_take L);refine wpS_bind (yF C ?_);by_cases w:a.size - 1=0
 .rw[iP (by simpa using w)];exact wpS_pure (hq _ _ (Sg.refl st) (u.dn (.inl w)))
 .rw[iN (by simpa using w)];by_cases z:b.size=1
  .rw[iP (by simpa using z)];rw[z]at u ⊢;exact wpS_pure (hq _ _ (Sg.refl st) (u.fb Z.fst))
  .rw[iN (by simpa using z)];rw[27];refine wpS_bind (wpS_mono (Q:=λc m=>Sg st m/\ ∃r e,c=(some r,e)/\FinA lt a b r) ?_ ?_)
   .unfold Y7;refine Č (I:=λx c m=>Sg st m/\ ∃i j o g,c=(none,i,j,o,g)/\J1 lt a b o i j/\x+1<=o.size) ?_ ?_ ⟨Sg.refl st,_,_,_,_,rfl,⟨by lia,by lia,by lia,by lia,u⟩,by simp⟩
    .rintro n c m _ _ ⟨h,i,j,o,g,rfl,p,hn⟩;refine wpS_bind (Qb Z (h.kind.trans F) #[0] p λd N=>?_);rcases N with⟨r,e,rfl,q⟩|⟨i',j',o',p',q',rfl,hI',hn'⟩
     .exact wpS_pure ⟨h,r,_,rfl,q⟩
     .dsimp only;refine wpS_bind (iE ?_);refine wpS_bind (Qc Z h F hI' hn' λe O k J=>?_);rcases J with⟨r,e,rfl,q⟩|⟨i2,j2,o2,g2,p2,q2,rfl,hI2,hn2⟩
      .exact wpS_pure ⟨k,r,_,rfl,q⟩
      .dsimp only;refine wpS_bind (GU k λK B=>?_);exact wpS_pure ⟨B,i2,j2,o2,_,rfl,hI2,by lia⟩
    .rintro c m ⟨h,i,j,o,g,rfl,p,hn⟩;have:=p.2.2.2.2.len p.2.1 p.2.2.2.1
     lia
   .rintro c m ⟨h,r,e,rfl,q⟩;exact wpS_pure (hq r m h q)
end
end Srt
namespace Srt
open PySem PyProof.Rows
abbrev C2:=Option (Option Nat)×Nat
abbrev C3:=Option (Option Nat)×Nat×Nat
noncomputable def A3(lo a n:Nat):SM C2:=forIn [a:n] ((none,a):C2) λ_ c=>ltAt' (lo+c.2) (lo+c.2 - 1) >>= λo=>match o with
 |some q=>if q=true then pure (.done (none,c.2))else pure (.yield (none,c.2+1))
 |_=>pure (.done (some none,c.2))
def tl3(lo m n:Nat):SM (Option Nat):=reverseSlice' lo (lo+m) >>= λ_=>A3 lo m n >>= λc=>match c.1 with
 |some r=>pure r
 |none=>pure (some c.2)
noncomputable def Y8(lo a n:Nat):SM C3:=forIn [a:n] ((none,a,0):C3) λ_ c=>ltAt' (lo+c.2.1) (lo+c.2.1 - 1) >>= λo=>match o with
 |some q=>if q=true then
    if c.2.2>0 then reverseSlice' (lo+c.2.1 - (c.2.2+1)) (lo+c.2.1) >>= λ_=>pure (.yield (none,c.2.1+1,0))else pure (.yield (none,c.2.1+1,0))
   else ltAt' (lo+c.2.1 - 1) (lo+c.2.1) >>= λo=>match o with
    |some q=>if q=true then pure (.done (none,c.2.1,c.2.2))else pure (.yield (none,c.2.1+1,c.2.2+1))
    |_=>pure (.done (some none,c.2.1,c.2.2))
 |_=>pure (.done (some none,c.2.1,c.2.2))
def A4(lo m n:Nat):SM (Option Nat):=liftM (rule "list.sort.descending-run") >>= λ_=>Y8 lo (m+1) n >>= λc=>match c.1 with
 |some r=>pure r
 |none=>if c.2.2>0 then reverseSlice' (lo+c.2.1 - (c.2.2+1)) (lo+c.2.1) >>= λ_=>tl3 lo c.2.1 n else tl3 lo c.2.1 n
def cntR(lo n:Nat):SM (Option Nat):=A3 lo 1 n >>= λc=>match c.1 with
 |some r=>pure r
 |none=>if(c.2==n)=true then pure (some c.2)else if c.2>1 then ltAt' lo (lo+c.2 - 1) >>= λo=>(match o with
    |some q=>if q=true then pure (some c.2)else reverseSlice' lo (lo+c.2) >>= λ_=>A4 lo c.2 n
    |_=>pure none)
   else A4 lo c.2 n
theorem KR(lo n):countRun' lo n=cntR lo n:=by kernel_rfl
noncomputable def binI(lo k:Nat):SM (Option Bool×Nat×Nat):=forIn [0:k] ((none,0,k):Option Bool×Nat×Nat) λ_ c=>
 if c.2.1>=c.2.2 then pure (.done (none,c.2.1,c.2.2))else ltAt' (lo+k) (lo+(c.2.1+c.2.2) / 2) >>= λo=>match o with
  |some q=>if q=true then pure (.yield (none,c.2.1,(c.2.1+c.2.2) / 2))else pure (.yield (none,(c.2.1+c.2.2) / 2+1,c.2.2))
  |_=>pure (.done (some false,c.2.1,c.2.2))
def Y9(lo n ok:Nat):SM Bool:=(forIn [max ok 1:n] ((none,()):Option Bool×Unit) λk _=>binI lo k >>= λc=>match c.1 with
  |some r=>pure (.done (some r,()))
  |none=>moveDown' (lo+k) (lo+c.2.1) >>= λ_=>pure (.yield (none,()))) >>= λc=>match c.1 with
 |some r=>pure r
 |none=>pure true
theorem GL(lo n ok):binarySort' lo n ok=Y9 lo n ok:=by kernel_rfl
noncomputable def Kx(d:Keyed)(v:V)(i:Nat):Keyed:=(v[i]?).getD d
def sT(h:v[i]? =u[j]?):Kx d v i=Kx d u j:=by unfold Kx;rw[h]
def ED(b:j<=v.size)(k):Kx d (mirror v i j ((j - i) / 2)) k=if i<=k/\k<j then Kx d v (i+j - 1 - k)else Kx d v k:=by
 have e:=getElem?_mirror_all (i:=i) b k;by_cases a:i<=k/\k<j
 .rw[iP a]at e ⊢; exact sT e
 .rw[iN a]at e ⊢; exact sT e
def MD(hs:src<v.size)(hm:m<=src)(k):
  Kx d (bubble v src m) k=if k=src - m then Kx d v src else if src - m<k/\k<=src then Kx d v (k - 1)else Kx d v k:=by
 have e:=getElem?_bubble hs m hm k;by_cases a:k=src - m
 .rw[iP a]at e ⊢; exact sT e
 .rw[iN a]at e ⊢;by_cases b:src - m<k/\k<=src
  .rw[iP b]at e ⊢; exact sT e
  .rw[iN b]at e ⊢; exact sT e
structure SB(a₀:V)(kd:SortKind)(pd:Array (Nat×Nat×Nat))(f:V)(lo:Nat)(st:SortSt):Prop where
 pm:(arrOf st).Perm a₀
 kind:kindOf st=kd
 fl:failedOf st=none
 pd:pendingOf st=pd
 fx: ∀i,i<lo->(arrOf st)[i]? =f[i]?
section
variable{pd:Array (Nat×Nat×Nat)}{lo:Nat}{st:SortSt}
def SB.size(h:↑28):(arrOf st).size=a₀.size:=h.pm.size_eq
theorem SB.rev(h:↑28)(hi:lo<=i)(b:j<=a₀.size):SB a₀ kd pd f lo (setArr st (mirror (arrOf st) i j ((j - i) / 2))):=
 ⟨(mirror_perm _ _ _ _).trans h.pm,h.kind,h.fl,h.pd,λk a=>by rw[getElem?_mirror_all (by rw[h.size];exact b),iN #[0]];exact h.fx k a⟩
theorem SB.bub(h:↑28)(hi:lo+m<=i)(b:i<a₀.size):SB a₀ kd pd f lo (setArr st (bubble (arrOf st) i m)):=
 ⟨(bubble_perm _ _ _).trans h.pm,h.kind,h.fl,h.pd,λk a=>by rw[getElem?_bubble (by rw[h.size];exact b) _ #[0],iN #[0],iN #[0]];exact h.fx k a⟩
def BV(C:↑16)(h:↑28)(c:↑30)(hi:i<a₀.size)(m:j<a₀.size)
  (hq:Q (some (lt (Kx d (arrOf st) i) (Kx d (arrOf st) j))) st):wpS M A E s (ltAt' i j) Q st:=by
 obtain⟨x,b⟩:=wR (by rw[h.size];exact hi);obtain⟨y,a⟩:=wR (by rw[h.size];exact m);have n:=(ĺ.mp h.pm).mem_iff.mp (è b);have e:=(ĺ.mp h.pm).mem_iff.mp (è a);have o:Kx d (arrOf st) i=x:=by unfold Kx;rw[<-ð,b];rfl
 have k:Kx d (arrOf st) j=y:=by unfold Kx;rw[<-ð,a];rfl
 rw[o,k]at hq;rw[27];exact wpS_bind (yF b (wpS_bind (yF a (C.go x y (c x n) (c y e) st h.kind _ hq))))
def PV(h:Q () (setArr st (mirror (arrOf st) i j ((j - i) / 2)))):wpS M A E s (reverseSlice' i j) Q st:=by rw[reverseSlice'_eq];exact wpS_modify h
def Up(lt:↑7)(d:Keyed)(v:V)(lo n:Nat):Prop:= ∀i j,i<=j->j<n->Le lt (Kx d v (lo+i)) (Kx d v (lo+j))
def Dn(lt:↑7)(d:Keyed)(v:V)(lo n:Nat):Prop:= ∀i j,i<=j->j<n->Le lt (Kx d v (lo+j)) (Kx d v (lo+i))
theorem Up.step(C:↑16)(hs:Up lt d v lo x)(k:1<=x)(h:lt (Kx d v (lo+x)) (Kx d v (lo+x - 1))=false):Up lt d v lo (x+1):=by
 intro i j b m;by_cases e:j<x
 .exact hs i j b e
 .have c:j=x:=by lia
  subst c;by_cases a:i=j
  .subst a;exact C.rf _
  .have:=hs i (j - 1) #[0] #[0];rw[show lo+(j - 1)=lo+j - 1 by lia]at this;exact C.tr _ _ _ this h
theorem ZX(C:↑16)(p:↑30)(h:↑28)(hn:lo+n<=a₀.size)(q:1<=a)(j:a<=n)(hs:Up lt d (arrOf st) lo a)
  (hq: ∀m,a<=m->m<=n->Up lt d (arrOf st) lo m->(m=n\/lt (Kx d (arrOf st) (lo+m)) (Kx d (arrOf st) (lo+m - 1))=true)->Q (none,m) st):wpS M A E s (A3 lo a n) Q st:=by
 refine Č (I:=λx c e=>e=st/\c=(none,x)/\Up lt d _ lo x) ?_ ?_ ⟨rfl,rfl,hs⟩
 .rintro x c e i o ⟨rfl,rfl,b⟩;refine wpS_bind (BV (d:=d) C h p #[0] #[0] ?_)
  cases k:lt _ _ with
  |true=>exact wpS_pure (hq x i #[0] b (.inr k))
  |false=>exact wpS_pure ⟨rfl,rfl,b.step C #[0] k⟩
 .rintro c e ⟨rfl,rfl,b⟩;rw[show max a n=n by lia]at b ⊢;exact hq n j (à _) b (.inl rfl)
theorem Up.of_mirror(h:↑28)(hm:lo+m<=a₀.size)(hs:Dn lt d (arrOf st) lo m):Up lt d (mirror (arrOf st) lo (lo+m) ((lo+m - lo) / 2)) lo m:=by intro i j a b;rw[ED (by rw[h.size];exact hm),ED (by rw[h.size];exact hm),iP #[0],iP #[0]];have:=hs (m - 1 - j) (m - 1 - i) (by omega) (by omega);rw[show lo+(m - 1 - j)=lo+(lo+m) - 1 - (lo+j) by omega,show lo+_=lo+(lo+m) - 1 - (lo+i) by omega]at this;exact this
theorem Ij(C:↑16)(a:↑30)(h:↑28)(hn:lo+n<=a₀.size)(b:1<=m)(hm:m<=n)(hs:Dn lt d (arrOf st) lo m)
  (hq: ∀m q,SB a₀ kd pd f lo q->1<=m->m<=n->Up lt d (arrOf q) lo m->Q (some m) q):wpS M A E s (tl3 lo m n) Q st:=by
 refine wpS_bind (PV ?_);have h':=h.rev (j:=lo+m) (à _) #[0];exact wpS_bind (ZX C a h' hn b hm (Up.of_mirror h #[0] hs) λk i e c _=>wpS_pure (hq k _ h' #[0] e c))
def Z7(lt:↑7)(d:Keyed)(v:V)(i j:Nat):Prop:= ∀k l,i<=k->k<j->i<=l->l<j->Le lt (Kx d v k) (Kx d v l)
def Dn.mirror(C:↑16)(h:↑28)(e:j<=a₀.size)(c:Z7 lt d (arrOf st) i j)(hs:Dn lt d (arrOf st) lo n):Dn lt d (mirror (arrOf st) i j ((j - i) / 2)) lo n:=by
 have a: ∀k,Le lt (Kx d (PyProof.Rows.mirror (arrOf st) i j ((j - i) / 2)) k) (Kx d (arrOf st) k)/\Le lt (Kx d (arrOf st) k) (Kx d (PyProof.Rows.mirror (arrOf st) i j ((j - i) / 2)) k):=by
  intro k;rw[ED (by rw[h.size];exact e)];split
  .exact⟨c _ _ (by omega) (by omega) (by omega) (by omega),c _ _ (by omega) (by omega) (by omega) (by omega)⟩
  .exact⟨C.rf _,C.rf _⟩
 intro p q b m;exact C.tr _ _ _ (a _).1 (C.tr _ _ _ (hs p q b m) (a _).2)
theorem Qd(C:↑16)(J:↑30)(h:↑28)(hn:lo+n<=a₀.size)(H:1<=a)(F:a<=n)(hs:Dn lt d (arrOf st) lo a)
  (hq: ∀m e q,SB a₀ kd pd f lo q->a<=m->m<=n->Dn lt d (arrOf q) lo m->e+1<=m->Z7 lt d (arrOf q) (lo+m - (e+1)) (lo+m)->Q (none,m,e) q):wpS M A E s (Y8 lo a n) Q st:=by
 refine Č (I:=λx c q=> ∃e,c=(none,x,e)/\SB a₀ kd pd f lo q/\Dn lt d (arrOf q) lo x/\e+1<=x/\Z7 lt d (arrOf q) (lo+x - (e+1)) (lo+x)) ?_ ?_
  ⟨0,rfl,h,hs,by lia,λk l H S W T=>by rw[show k=l by lia];exact C.rf _⟩
 .rintro x c q B O ⟨e,rfl,o,b,p,r⟩;have one: ∀v:V,Z7 lt d v (lo+(x+1) - (0+1)) (lo+(x+1)):=λv k l H S W T=>by rw[show k=l by lia];exact C.rf _
  refine wpS_bind (BV (d:=d) C o J #[0] #[0] ?_)
  cases G:lt _ _ with
  |true=>
   have N:Dn lt d (arrOf q) lo (x+1):=by
    intro i j w U;by_cases z:j<x
    .exact b i j w z
    .have y:j=x:=by lia
     subst y;by_cases u:i=j
     .subst u;exact C.rf _
     .have:=b i (j - 1) #[0] #[0];rw[show lo+_=lo+j - 1 by lia]at this;exact C.tr _ _ _ (C.as _ _ G) this
   dsimp only;rw[iP rfl];by_cases L:e>0
   .rw[iP L];refine wpS_bind (PV (wpS_pure ⟨0,rfl,o.rev #[0] #[0],N.mirror C o #[0] r,by lia,one _⟩))
   .rw[iN L];exact wpS_pure ⟨0,rfl,o,N,by lia,one _⟩
  |false=>
   dsimp only;rw[30];refine wpS_bind (BV (d:=d) C o J #[0] #[0] ?_)
   cases K:lt _ _ with
   |true=>exact wpS_pure (hq x e q o B #[0] b p r)
   |false=>
    refine wpS_pure ⟨_,rfl,o,λi j w U=>?_,by lia,λk l X Z k3 Y=>?_⟩
    .by_cases z:j<x
     .exact b i j w z
     .have y:j=x:=by lia
      subst y;by_cases u:i=j
      .subst u;exact C.rf _
      .have:=b i (j - 1) #[0] #[0];rw[show lo+_=lo+j - 1 by lia]at this;exact C.tr _ _ _ K this
    .by_cases P:k=lo+x
     .subst P;by_cases cl:l=lo+x
      .subst cl;exact C.rf _
      .exact C.tr _ _ _ K (r _ _ #[0] #[0] #[0] #[0])
     .by_cases cl:l=lo+x
      .subst cl;exact C.tr _ _ _ (r k _ #[0] #[0] #[0] #[0]) G
      .exact r _ _ #[0] #[0] #[0] #[0]
 .rintro c q ⟨e,rfl,o,b,p,r⟩;rw[show max a n=n by lia]at b p r ⊢;exact hq n e q o F (à _) b p r
theorem ZY(C:↑16)(a:↑30)(h:↑28)(hn:lo+n<=a₀.size)(hm:m+1<=n)(hs:Dn lt d (arrOf st) lo (m+1))
  (hq: ∀m j,SB a₀ kd pd f lo j->1<=m->m<=n->Up lt d (arrOf j) lo m->Q (some m) j):wpS M A E s (A4 lo m n) Q st:=by
 refine wpS_bind (iE ?_);refine wpS_bind (Qd C a h hn #[0] hm hs λk e j b q o c r p=>?_);by_cases i:e>0
 .rw[iP i];exact wpS_bind (PV (Ij C a (b.rev #[0] #[0]) hn #[0] o (c.mirror C b #[0] p) hq))
 .rw[iN i];exact Ij C a b hn #[0] o c hq
theorem ZZ(C:↑16)(e:↑30)(h:↑28)(hn:lo+n<=a₀.size)(F:1<=n)
  (hq: ∀m q,SB a₀ kd pd f lo q->1<=m->m<=n->Up lt d (arrOf q) lo m->Q (some m) q):wpS M A E s (countRun' lo n) Q st:=by
 rw[KR];refine wpS_bind (ZX (d:=d) C e h hn (à 1) F (λi j b z=>by rw[show i=j by lia];exact C.rf _) λm u B hs p=>?_);by_cases r:m=n
 .rw[iP (by simpa using r)];exact wpS_pure (hq m st h u B hs)
 .rw[iN (by simpa using r)];have c:=p.resolve_left r;by_cases w:m>1
  .rw[iP w];refine wpS_bind (BV (d:=d) C h e #[0] #[0] ?_)
   cases H:lt _ _ with
   |true=>exact wpS_pure (hq m st h u B hs)
   |false=>
    have all:Z7 lt d (arrOf st) lo (lo+m):=by intro k l I L J K;have v:=hs 0 (l - lo) #[0] #[0];have y:=hs (k - lo) (m - 1) #[0] #[0];rw[show lo+0=lo by lia,show lo+_=l by lia]at v;rw[show lo+_=k by lia,show lo+_=lo+m - 1 by lia]at y;exact C.tr _ _ _ y (C.tr _ _ _ H v)
    have dn:Dn lt d (arrOf st) lo (m+1):=by
     intro i j b z;by_cases G:j<m
     .exact all _ _ #[0] #[0] #[0] #[0]
     .have o:j=m:=by lia
      subst o;by_cases a:i=j
      .subst a;exact C.rf _
      .exact C.tr _ _ _ (C.as _ _ c) (all _ _ #[0] #[0] #[0] #[0])
    dsimp only;exact wpS_bind (PV (ZY C e (h.rev (à _) #[0]) hn #[0] (dn.mirror C h #[0] all) hq))
  .rw[iN w];have:m=1:=by lia
   subst this;refine ZY C e h hn #[0] (λi j b z=>?_) hq;by_cases a:i=j
   .subst a;exact C.rf _
   .rw[show i=0 by lia,show j=1 by lia];exact C.as _ _ c
theorem Aa(C:↑16)(L:↑30)(h:↑28)(hn:lo+n<=a₀.size)(S:ok<=n)(hs:Up lt d (arrOf st) lo ok)
  (hq: ∀m,SB a₀ kd pd f lo m->Up lt d (arrOf m) lo n->Q true m):wpS M A E s (binarySort' lo n ok) Q st:=by
 rw[GL];unfold Y9
 refine wpS_bind (wpS_mono (Č (I:=λk c m=>c=(none,())/\SB a₀ kd pd f lo m/\Up lt d (arrOf m) lo (min k n))
  (Q:=λc m=>c=(none,())/\SB a₀ kd pd f lo m/\Up lt d (arrOf m) lo n) ?_ ?_ ?_) ?_)
 .rintro k c m J O ⟨rfl,q,a⟩;rw[show min k n=k by lia]at a;unfold binI
  refine wpS_bind (wpS_mono (Č (I:=λx c b=>b=m/\ ∃l r,c=(none,l,r)/\l<=r/\r<=k/\r - l<=k - x/\
    (∀i,i<l->Le lt (Kx d (arrOf m) (lo+i)) (Kx d (arrOf m) (lo+k)))/\(∀i,r<=i->i<k->Le lt (Kx d (arrOf m) (lo+k)) (Kx d (arrOf m) (lo+i))))
   (Q:=λc b=>b=m/\ ∃l r,c=(none,l,r)/\l<=k/\
    (∀i,i<l->Le lt (Kx d (arrOf m) (lo+i)) (Kx d (arrOf m) (lo+k)))/\(∀i,l<=i->i<k->Le lt (Kx d (arrOf m) (lo+k)) (Kx d (arrOf m) (lo+i)))) ?_ ?_ ?_) ?_)
  .rintro x c b _ K ⟨rfl,l,r,rfl,B,p,hm,e,o⟩;dsimp only;by_cases v:l>=r
   .rw[iP v];have:l=r:=by lia
    subst this;exact wpS_pure ⟨rfl,l,l,rfl,p,e,o⟩
   .rw[iN v];refine wpS_bind (BV (d:=d) C q L #[0] #[0] ?_)
    cases F:lt _ _ with
    |true=>exact wpS_pure ⟨rfl,l,_,rfl,by lia,by lia,by lia,e,λi z G=>C.tr _ _ _ (C.as _ _ F) (a _ _ z G)⟩
    |false=>exact wpS_pure ⟨rfl,_,r,rfl,by lia,by lia,by lia,λi z=>C.tr _ _ _ (a i _ #[0] #[0]) F,o⟩
  .rintro c b ⟨rfl,l,r,rfl,B,p,hm,e,o⟩;have:l=r:=by lia
   subst this;exact⟨rfl,l,l,rfl,p,e,o⟩
  .exact⟨rfl,0,k,rfl,by lia,by lia,by lia,λi hi=>by lia,λi z G=>by lia⟩
  .rintro c b ⟨rfl,l,r,rfl,N,e,o⟩;dsimp only;rw[moveDown'_eq];have w:lo+k<(arrOf b).size:=by rw[q.size];lia
   refine wpS_bind (wpS_modify (wpS_pure ⟨rfl,?_,?_⟩))
   .exact q.bub #[0] #[0]
   .rw[show min _ n=k+1 by lia];intro i j y P;show Le lt _ _;rw[MD w #[0],MD w #[0],show lo+k - _=lo+l by lia];have u: ∀i,1<=i->lo+i - 1=lo+(i - 1):=λi hi=>by lia
    repeat' split
    all_goals first
     |(exfalso;lia)
     |exact C.rf _
     |exact e _ #[0]
     |(rw[u _ #[0]];exact o _ #[0] #[0])
     |exact o _ #[0] #[0]
     |exact a _ _ #[0] #[0]
     |(rw[u i #[0]];exact a _ _ #[0] #[0])
     |(rw[u j #[0]];exact a _ _ #[0] #[0])
     |(rw[u i #[0],u j #[0]];exact a _ _ #[0] #[0])
     |(rw[u i #[0]];exact e _ #[0])
 .rintro c m ⟨H,q,a⟩;refine⟨H,q,?_⟩;rwa [show min _ n=n by lia]at a
 .refine⟨rfl,h,λi j y P=>?_⟩;by_cases z:ok=0
  .rw[show i=j by lia];exact C.rf _
  .exact hs i j y #[0]
 .rintro c m ⟨rfl,q,a⟩;exact wpS_pure (hq m q a)
end
end Srt
namespace Srt
open PySem PyProof.Rows
noncomputable abbrev putAll(w:V)(p:Nat)(v:V):V:=w.toList.zipIdx.foldl (λa (x,j)=>a.setIfInBounds (p+j) x) v
def Qe(p:Nat)(w:V):SM Bool:=(modify λs=>setArr s (putAll w p (arrOf s))) >>= λ_=>get >>= λs=>pure (failedOf s).isNone
def mAt(i:Nat):SM Bool:=get >>= λst=>match (pendingOf st)[i]?,(pendingOf st)[i+1]? with
 |some (sa,na,pw),some (sb,nb,_)=>set (setPending st (((pendingOf st).setIfInBounds i (sa,na+nb,pw)).eraseIdxIfInBounds (i+1))) >>= λ_=>
  elem' (arrOf st) sb >>= λy=>eP false y (arrOf st) sa na 0 >>= λr=>(match r with
   |some k=>if(na - k==0)=true then pure true else elem' (arrOf st) (sa+k+(na - k) - 1) >>= λx=>eP true x (arrOf st) sb nb (nb - 1) >>= λr=>(match r with
    |some m=>if(m==0)=true then pure true
      else if na - k<=m then IC ((arrOf st).extract (sa+k) sb) ((arrOf st).extract sb (sb+m)) >>= λw=>Qe (sa+k) w
      else IE ((arrOf st).extract (sa+k) sb) ((arrOf st).extract sb (sb+m)) >>= λw=>Qe (sa+k) w
    |_=>pure false)
   |_=>pure false)
 |_,_=>liftM (unsupported "internal:list.sort.pending")
theorem TH(i):mergeAt' i=mAt i:=by kernel_rfl
theorem FK(p): ∀ ws  k (v:V),p+k+ws.length<=v.size->
  ((ws.zipIdx k).foldl (λa (x,j)=>a.setIfInBounds (p+j) x) v).toList=v.toList.take (p+k)++ws++v.toList.drop (p+k+ws.length)
 |[],k,v,_=>by simp
 |x::t,k,v,h=>by
  rw[zipIdx_cons,ŏ];have m:p+(k+1)+t.length<=(v.setIfInBounds (p+k) x).size:=by rw[Array.size_setIfInBounds];simp only[lC]at h;lia
  rw[FK p t _ _ m];simp only[lC]at h ⊢;have e:(v.setIfInBounds (p+k) x).toList=v.toList.set _ x:=Array.toList_setIfInBounds ..;rw[e]
  have b:(v.toList.set (p+k) x).take (p+(k+1))=v.toList.take (p+k)++[x]:=by
   rw[show p+_=p+k+1 by lia];have c:(v.toList.set (p+k) x)[p+k]? =some x:=by rw[ğ];simp;lia
   rw[GV c,List.take_set_of_le (à _)]
  rw[b,List.drop_set_of_lt #[0]];rw[show p+_+t.length=p+k+(t.length+1) by lia];simp only[aA,ĩ,Ő]
section
variable{kd:SortKind}{lt:↑7}{a₀:V}{pd:Array (Nat×Nat×Nat)}{lo:Nat}{st:SortSt}
def Up.sl(h:Up lt d v lo n):SL lt v.toList lo n:=by
 intro i j x y c e a k;have m:Kx d v (lo+i)=x:=by unfold Kx;rw[<-ð,a];rfl
 have b:Kx d v (lo+j)=y:=by unfold Kx;rw[<-ð,k];rfl
 have:=h i j c e;rw[m,b]at this;exact this
theorem SL.pw(h:SL lt l lo n):((l.drop lo).take n).Pairwise (Le lt):=by rw[List.pairwise_iff_getElem];intro i j hi b a;rw[lT]at hi b;rw[getElem_take,getElem_take,getElem_drop,getElem_drop];exact h i j _ _ #[0] #[0] (gE _) (gE _)
def four{β:Type}{le:β->β->Prop}{d A2 B1 c W:List β}(k:(d++A2).Pairwise le)(j:(B1++c).Pairwise le)(i: ∀z,z∈d-> ∀w,w∈B1++c->le z w)(h: ∀z,z∈d++A2-> ∀w,w∈c->le z w)
  (hW:W.Pairwise le) (pW:W.Perm (A2++B1)):(d++W++c).Pairwise le/\(d++W++c).Perm (d++(A2++(B1++c))):=by
 have a:=ì.mp k;have b:=ì.mp j;refine⟨ì.mpr ⟨ì.mpr ⟨a.1,hW,λz e w hw=>?_⟩,b.2.1,λz e w hw=>?_⟩,?_⟩
 .rcases ê.mp (pW.mem_iff.mp hw)with q|q
  .exact a.2.2 z e w q
  .exact i z e w (ă _ q)
 .rcases ê.mp e with q|q
  .exact h z (ă _ q) w hw
  .rcases ê.mp (pW.mem_iff.mp q)with r|r
   .exact h z (õ _ r) w hw
   .exact b.2.2 z r w hw
 .rw[<-aA A2 B1 c, <-aA];exact(pW.append_left d).append_right c
structure Out(a₀:V)(kd:SortKind)(lt:Keyed->Keyed->Bool)(n:Nat)(st:SortSt):Prop where
 pm:(arrOf st).toList.Perm a₀.toList
 kind:kindOf st=kd
 fl:failedOf st=none
 pd: ∃w,pendingOf st=#[(0,n,w)]
 so:(arrOf st).toList.Pairwise (Le lt)
def Qf(c:kindOf st=kd)(d:failedOf st=none)(b: ∃w,pendingOf st=#[(0,n,w)])
  (hl:p+w.size<=(arrOf st).size) (e:(arrOf st).toList.take p++w.toList++(arrOf st).toList.drop (p+w.size)=l) (h1:l.Pairwise (Le lt)) (h2:l.Perm a₀.toList)
   (hq: ∀j,Out a₀ kd lt n j->Q true j):wpS M A E s (Qe p w) Q st:=by
 have a:=by have:=FK p w.toList 0 _ (by simpa using hl);exact this.trans (by simpa using e)
 refine wpS_bind (wpS_modify (wpS_bind (wpS_get ?_)));have O:Out a₀ kd lt n (setArr st (putAll w p _)):=⟨by show(putAll w p _).toList.Perm _;rw[a];exact h2,c,d,b,by show(putAll w p _).toList.Pairwise _;rw[a];exact h1⟩
 have:(failedOf (setArr st (putAll w p (arrOf st)))).isNone=true:=by rw[O.fl];rfl
 rw[this];exact wpS_pure (hq _ O)
theorem A5(C:↑16)(hD:↑30)(h1:1<=n1)(h2:1<=n2)(hz:n1+n2=a₀.size)(h:SB a₀ kd #[(0,n1,pw),(n1,n2,0)] f lo st)
  (hA:SL lt (arrOf st).toList 0 n1) (hB:SL lt (arrOf st).toList n1 n2)  (hq: ∀L,Out a₀ kd lt (n1+n2) L->Q true L):wpS M A E s (mergeAt' 0) Q st:=by
 rw[TH];unfold mAt;rw[27];rw[h.pd];have e0:(#[(0,n1,pw),(n1,n2,0)]:Array _)[0]? =some (0,n1,pw):=rfl;have e1:(#[(0,n1,pw),(n1,n2,0)]:Array (Nat×Nat×Nat))[0+1]? =some (n1,n2,0):=rfl;rw[e0,e1];dsimp only;refine wpS_bind (Py ?_);generalize p:setPending st _=st1;have H:kindOf st1=kd:=by rw[<-p];exact h.kind
 have f1:failedOf st1=none:=by rw[<-p];exact h.fl
 have p1: ∃w,pendingOf st1=#[(0,n1+n2,w)]:=by rw[<-p];exact⟨pw,(by simp[Array.eraseIdxIfInBounds])⟩
 have P:arrOf st1=arrOf st:=by rw[<-p]
 have sz:(arrOf st).size=n1+n2:=by rw[h.size,hz]
 have G:(arrOf st).toList.Perm a₀.toList:=ĺ.mp h.pm;have j: ∀x,x∈(arrOf st).toList->D x:=λx hx=>hD x (G.mem_iff.mp hx);generalize hv:arrOf st=v at *;obtain⟨y,S⟩:=wR (v:=v) (i:=n1) #[0];obtain⟨x,N⟩:=wR (v:=v) (i:=n1 - 1) #[0];have hl:v.toList.length=n1+n2:=by simpa using sz
 have B:=hA.pw;have pB:=hB.pw;rw[drop_zero]at B;have tB:(v.toList.drop n1).take n2=v.toList.drop n1:=ĉ (by rw[ą];lia);rw[tB]at pB;have aa:=heads C.rf pB S;have ab: ∀z,z∈v.toList.take n1->Le lt z x:=by have:=TF (i:=n1 - 1) C.rf (by rw[Nat.sub_add_cancel h1];exact B) N;rwa [Nat.sub_add_cancel h1]at this
 refine wpS_bind (yF S (wpS_bind (PL C H j (j y (è S)) #[0] #[0] hA λk ka kb kc=>?_)));dsimp only;have g1: ∀z,z∈v.toList.take k-> ∀w,w∈v.toList.drop n1->Le lt z w:=by intro z c w hw;refine(mH c).b λi q I i3=>?_;exact C.tr _ _ _ (kb i z q (by rw[Ă];exact i3)) (aa w hw)
 have o:v.toList.Pairwise (Le lt)->Out a₀ kd lt (n1+n2) st1:=λhp=>⟨by rw[P];exact G,H,f1,p1,by rw[P];exact hp⟩
 by_cases c1:n1 - k=0
 .rw[iP (by simpa using c1)];refine wpS_pure (hq _ (o ?_));have hk:k=n1:=by lia
  subst hk;rw[<-Ň k v.toList];exact ì.mpr ⟨B,pB,g1⟩
 .rw[iN (by simpa using c1)];have X:v.toList[0+k+(n1 - k) - 1]? =some x:=by rw[show 0+k+(n1 - k) - 1=n1 - 1 by lia];exact N
  refine wpS_bind (yF X (wpS_bind (PM C H j (j x (è N)) #[0] #[0] hB λm ma mb mc=>?_)));dsimp only;have g2: ∀z,z∈v.toList.take n1-> ∀w,w∈v.toList.drop (n1+m)->Le lt z w:=by intro z c w hw;refine(kI hw).a λi q I=>?_;exact C.tr _ _ _ (ab z c) (mc (m+i) w #[0] #[0] (by rw[<-add_assoc];exact I))
  by_cases Y:m=0
  .rw[iP (by simpa using Y)];refine wpS_pure (hq _ (o ?_));subst Y;rw[<-Ň n1 v.toList];exact ì.mpr ⟨B,pB,g2⟩
  .rw[iN (by simpa using Y),Ă];generalize ha:v.extract k n1=a;generalize hb:v.extract n1 (n1+m)=b;have la:a.toList=(v.toList.drop k).take (n1 - k):=by rw[<-ha,show n1=k+(n1 - k) by lia,PN];congr 1;lia
   have U:b.toList=(v.toList.drop n1).take m:=by rw[<-hb,PN]
   have za:a.size=n1 - k:=by rw[<-ï,la,lT,ą];lia
   have zb:b.size=m:=by rw[<-ï,U,lT,ą];lia
   have O:v.toList.take n1=v.toList.take k++a.toList:=by rw[la, <-drop_take];exact IG _ _ _ #[0]
   have T:v.toList.drop n1=b.toList++v.toList.drop (n1+m):=by rw[U];exact IF _ _ _
   have mA: ∀z,z∈a.toList-> ∃i,k<=i/\i<n1/\v.toList[i]? =some z:=by intro z c;rw[la, <-drop_take]at c;exact AK c
   have mB: ∀z,z∈b.toList-> ∃i,i<m/\v.toList[n1+i]? =some z:=by intro z c;rw[U]at c;refine(AI c).b λi q _ I=>?_;exact⟨i,q,I⟩
   have Z:Set3 M A E s kd D lt a b:={
    C:=C
    da:=λz c=>by refine(mA z c).b λi _ _ e=>?_;exact j z (è e)
    db:=λz c=>by refine(mB z c).a λi _ e=>?_;exact j z (è e)
    lst:=λJ K n d=>by rw[la,ı #[0],getElem?_drop,show k+(a.size - 1)=n1 - 1 by lia,N]at n;cases n;refine(mB K d).a λi q e=>?_;exact C.as _ _ (mb i K q e)
    fst:=λJ K n d=>by rw[U,ı #[0],getElem?_drop,Nat.add_zero,S]at d;cases d;refine(mA J n).b λi q I e=>?_;exact C.as _ _ (kc i J q I (by rw[Ă];exact e))}
   have sA:a.toList.Pairwise (Le lt):=by rw[O]at B;exact(ì.mp B).2.1
   have sB:b.toList.Pairwise (Le lt):=by rw[T]at pB;exact(ì.mp pB).1
   have fin: ∀r u,Sg st1 u->FinA lt a b r->wpS M A E s (Qe k r) Q u:=by
    rintro r u ⟨g,rfl⟩ ⟨fa,fb⟩
    have zr:r.size=n1 - k+m:=by
     have:=fb.length_eq;simp only[lA,ï]at this
     lia
    have F:=four (W:=r.toList) (A2:=a.toList) (B1:=b.toList) (by rw[<-O];exact B) (by rw[<-T];exact pB)
     (λz c w hw=>g1 z c w (by rw[T];exact hw)) (λz c w hw=>g2 z (by rw[O];exact c) w hw) fa fb
    have F2:=F.2;rw[<-T, <-aA, <-O,Ň]at F2;refine Qf (st:=SortSt.mk' (kindOf st1) (arrOf st1) (pendingOf st1) g (failedOf st1)) H f1 p1 ?_ ?_ F.1 (F2.trans G) hq
    .show k+r.size<=(arrOf st1).size;rw[P];lia
    .show(arrOf st1).toList.take k++r.toList++(arrOf st1).toList.drop (k+r.size)=_;rw[P,zr,show k+(n1 - k+m)=n1+m by lia]
   split
   .exact wpS_bind (Zw Z.toSet2 H sA sB #[0] #[0] (λJ K n d=>Z.fst J K (è n) d) fin)
   .exact wpS_bind (Zz Z H sA sB #[0] #[0] fin)
end
end Srt
namespace Srt
open PySem PyProof.Rows
abbrev U2:=Option Unit×Nat
abbrev U1:=Option Unit×Unit
noncomputable def psh(lo n:Nat):SM (ForInStep U2):=(modify λs=>setPending s ((pendingOf s).push (lo,n,0))) >>= λ_=>pure (.yield (none,lo+n))
def M8(N lo n:Nat):SM (ForInStep U2):=get >>= λst=>match (pendingOf st).back? with
 |some (a,b,_)=>(forIn [0:N] ((none,()):U1) λ_ _=>get >>= λst=>(match (if(pendingOf st).size>1 then(pendingOf st)[(pendingOf st).size - 2]? else none)with
   |some (_,_,z)=>if z<=power' N (2 * a+b) (2 * a+b+b+n) N then pure (.done (none,()))else mergeAt' ((pendingOf st).size - 2) >>= λq=>if(!q)=true then pure (.done (some (),()))else pure (.yield (none,()))
   |_=>pure (.done (none,())))) >>= λc=>(match c.1 with
  |some r=>pure (.done (some r,lo))
  |none=>(modify λs=>setPending s ((pendingOf s).modify ((pendingOf s).size - 1) λ(u,v,_)=>(u,v,power' N (2 * a+b) (2 * a+b+b+n) N))) >>= λ_=>psh lo n)
 |_=>psh lo n
def runs(N r:Nat):SM U2:=forIn [0:N] ((none,0):U2) λ_ c=>if c.2>=N then pure (.done (none,c.2))else countRun' c.2 (N - c.2) >>= λo=>match o with
 |some m=>if m<r then liftM (rule "list.sort.binary-insertion") >>= λ_=>binarySort' c.2 (min (N - c.2) r) m >>= λq=>if(!q)=true then pure (.done (some (),c.2))else M8 N c.2 (min (N - c.2) r)
   else M8 N c.2 m
 |_=>pure (.done (some (),c.2))
noncomputable def Z8(N:Nat):SM U1:=forIn [0:N] ((none,()):U1) λ_ _=>get >>= λst=>if(pendingOf st).size<=1 then pure (.done (none,()))else
 mergeAt' (if Option.any (λx=>decide (x<((pendingOf st)[(pendingOf st).size - 2+1]?).elim 0 λx=>x.2.1)) (if(pendingOf st).size - 2>0 then Option.map (λx=>x.2.1) (pendingOf st)[(pendingOf st).size - 2 - 1]? else none)=true
  then(pendingOf st).size - 2 - 1 else(pendingOf st).size - 2) >>= λq=>if(!q)=true then pure (.done (some (),()))else pure (.yield (none,()))
def sRun:SM Unit:=get >>= λst=>runs (arrOf st).size (minRun' (arrOf st).size (arrOf st).size 0) >>= λc=>match c.1 with
 |some r=>pure r
 |none=>Z8 (arrOf st).size >>= λc=>match c.1 with
  |some r=>pure r
  |none=>pure ()
theorem De(a:2<=N)(h:N<128):1<=minRun' N N 0/\minRun' N N 0<=N/\N<=2 * minRun' N N 0:=by
 obtain⟨g,rfl⟩: ∃g,N=g+2:=⟨N - 2,by lia⟩
 have e:minRun' (g+2) (g+2) 0=if g+2<64 then g+2+0 else if(g+2) / 2<64 then(g+2) / 2+max 0 ((g+2) % 2)else minRun' g ((g+2) / 2 / 2) (max (max 0 ((g+2) % 2)) ((g+2) / 2 % 2)):=by rw[minRun'_succ,minRun'_succ]
 rw[e];split
 .lia
 .rw[iP #[0]];lia
section
variable{pd:Array (Nat×Nat×Nat)}{lo:Nat}{st:SortSt}
def M9(a₀:V)(kd:SortKind)(lt:↑7)(st:SortSt):Prop:=
 (SB a₀ kd #[(0,a₀.size,0)] a₀ 0 st/\SL lt (arrOf st).toList 0 a₀.size)\/ ∃a b pw,a+b=a₀.size/\1<=a/\1<=b/\SB a₀ kd #[(0,a,pw),(a,b,0)] a₀ 0 st/\SL lt (arrOf st).toList 0 a/\SL lt (arrOf st).toList a b
theorem SB.free(h:↑28)(g):SB a₀ kd pd' g 0 (setPending st pd'):=⟨h.pm,h.kind,h.fl,rfl,λ_ hi=>by lia⟩
def Ik(h:Q (.yield (none,lo+n)) (setPending st ((pendingOf st).push (lo,n,0)))):wpS M A E s (psh lo n) Q st:=
 wpS_bind (wpS_modify (wpS_pure h))
theorem Qg(C:↑16)(J:↑30)(d:Keyed)(T:2<=a₀.size)(Y:1<=r)(r2:r<=a₀.size)(Z:a₀.size<=2 * r)(h:SB a₀ kd #[] a₀ 0 st)
  (hq: ∀u,M9 a₀ kd lt u->Q (none,a₀.size) u):wpS M A E s (runs a₀.size r) Q st:=by
 unfold runs;refine Č (I:=λx c u=>(x=0/\c=(none,0)/\SB a₀ kd #[] a₀ 0 u)\/(x=1/\ ∃n,c=(none,n)/\r<=n/\n<a₀.size/\SB a₀ kd #[(0,n,0)] a₀ 0 u/\SL lt (arrOf u).toList 0 n)\/(1<=x/\c=(none,a₀.size)/\M9 a₀ kd lt u)) ?_ ?_ (.inl ⟨rfl,rfl,h⟩)
 .rintro x c u _ B (⟨rfl,rfl,F⟩|⟨rfl,n,rfl,n1,n2,F,hs⟩|⟨W,rfl,L⟩)
  .dsimp only;rw[iN #[0]]
   have H: ∀m b,SB a₀ kd #[] a₀ 0 b->r<=m->m<=a₀.size->Up lt d (arrOf b) 0 m-> ∀R:ForInStep U2->SortSt->Prop,(∀K u,((0+1=0/\K=(none,0)/\SB a₀ kd #[] a₀ 0 u)\/(0+1=1/\ ∃n,K=(none,n)/\r<=n/\n<a₀.size/\SB a₀ kd #[(0,n,0)] a₀ 0 u/\SL lt (arrOf u).toList 0 n)\/(1<=0+1/\K=(none,a₀.size)/\M9 a₀ kd lt u))->R (.yield K) u)->wpS M A E s (M8 a₀.size 0 m) R b:=by
    intro m b a z G o R hR;unfold M8;rw[27];have P:(pendingOf b).back? =none:=by rw[a.pd];rfl
    rw[P];dsimp only;refine Ik ?_;have e:(pendingOf b).push (0,m,0)=#[(0,m,0)]:=by rw[a.pd];rfl
    rw[e,Ă];by_cases p:m=a₀.size
    .subst p;exact hR _ _ (.inr (.inr ⟨by lia,rfl,.inl ⟨a.free a₀,o.sl⟩⟩))
    .exact hR _ _ (.inr (.inl ⟨rfl,m,rfl,z,by lia,a.free a₀,o.sl⟩))
   refine wpS_bind (ZZ (d:=d) C J F #[0] #[0] λm b a z G o=>?_);dsimp only;by_cases p:m<r
   .rw[iP p];refine wpS_bind (iE ?_);refine wpS_bind (Aa C J a #[0] #[0] o λk v w=>?_);rw[30];exact H _ k v #[0] #[0] w _ λ_ _ q=>q
   .rw[iN p];exact H m b a #[0] #[0] o _ λ_ _ q=>q
  .dsimp only;rw[iN #[0]];have N:SB a₀ kd #[(0,n,0)] (arrOf u) n u:=⟨F.pm,F.kind,F.fl,F.pd,λ_ _=>rfl⟩
   have H: ∀b,SB a₀ kd #[(0,n,0)] (arrOf u) n b->Up lt d (arrOf b) n (a₀.size - n)-> ∀R:ForInStep U2->SortSt->Prop,(∀u,M9 a₀ kd lt u->R (.yield (none,a₀.size)) u)->wpS M A E s (M8 a₀.size n (a₀.size - n)) R b:=by
    intro b a o R hR;have O:SL lt (arrOf b).toList 0 n:=by intro i j x y U T B S;rw[Ă]at B S;rw[ð,a.fx i #[0], <-ð]at B;rw[ð,a.fx j #[0], <-ð]at S;exact hs i j x y U T (by rw[Ă];exact B) (by rw[Ă];exact S)
    unfold M8;rw[27];have P:(pendingOf b).back? =some (0,n,0):=by rw[a.pd];rfl
    rw[P];dsimp only;refine wpS_bind (wpS_mono (Č (I:=λ_ c k=>c=(none,())/\k=b) ?_ (λ_ _ X=>X) ⟨rfl,rfl⟩) ?_)
    .rintro x c k _ _ ⟨rfl,rfl⟩;rw[27];rw[iN (by rw[a.pd];simp)];exact wpS_pure ⟨rfl,rfl⟩
    .rintro c k ⟨rfl,rfl⟩;dsimp only;refine wpS_bind (wpS_modify ?_);refine Ik ?_;rw[show n+_=a₀.size by lia];refine hR _ (.inr (YR n (a₀.size - n) (power' a₀.size (2 * 0+n) (2 * 0+n+n+(a₀.size - n)) a₀.size) ⟨by lia,by lia,by lia,?_,O,o.sl⟩));refine⟨a.pm,a.kind,a.fl,?_,λ_ hi=>by lia⟩;show((pendingOf k).modify _ _).push _=_;rw[a.pd];rfl
   refine wpS_bind (ZZ (d:=d) C J N #[0] #[0] λm b a z G o=>?_);dsimp only;by_cases p:m<r
   .rw[iP p];refine wpS_bind (iE ?_);rw[show min _ r=a₀.size - n by lia];refine wpS_bind (Aa C J a #[0] #[0] o λk v w=>?_);rw[30];exact H k v w _ λ_ q=>.inr (.inr ⟨by lia,rfl,q⟩)
   .rw[iN p];have:m=a₀.size - n:=by lia
    subst this;exact H b a o _ λ_ q=>.inr (.inr ⟨by lia,rfl,q⟩)
  .dsimp only;rw[iP (à _)];exact wpS_pure (hq u L)
 .rintro c u (⟨B,_⟩|⟨B,_⟩|⟨_,rfl,L⟩)
  .lia
  .lia
  .exact hq u L
def zCD(a₀:V)(lt:↑7)(st:SortSt):Prop:=(arrOf st).toList.Perm a₀.toList/\failedOf st=none/\(arrOf st).toList.Pairwise (Le lt)
theorem Qh(C:↑16)(i:↑30)(o:2<=a₀.size)(h:M9 a₀ kd lt st)(b: ∀j,zCD a₀ lt j->Q (none,()) j):wpS M A E s (Z8 a₀.size) Q st:=by
 refine Č (I:=λx c j=>c=_/\((x=0/\M9 a₀ kd lt j)\/(1<=x/\zCD a₀ lt j/\(pendingOf j).size<=1))) ?_ ?_ ⟨rfl,.inl ⟨rfl,h⟩⟩
 .rintro x c j _ _ ⟨rfl,⟨rfl,d⟩|⟨_,a,k⟩⟩
  .rw[27];rcases d with⟨hB,hs⟩|⟨n1,n2,pw,hz,g1,g2,hB,sa,sb⟩
   .rw[iP (by rw[hB.pd];simp)];refine wpS_pure (b j ⟨ĺ.mp hB.pm,hB.fl,?_⟩);have:=hs.pw;rwa [drop_zero,ĉ (by rw[ï,hB.size];lia)]at this
   .rw[iN (by rw[hB.pd];simp)]
    have e:(if Option.any (λx=>decide (x<((pendingOf j)[(pendingOf j).size - 2+1]?).elim 0 λx=>x.2.1)) (if(pendingOf j).size - 2>0 then Option.map (λx=>x.2.1) (pendingOf j)[(pendingOf j).size - 2 - 1]? else none)=true
      then(pendingOf j).size - 2 - 1 else(pendingOf j).size - 2)=0:=by rw[hB.pd];rfl
    rw[e];refine wpS_bind (A5 C i g1 g2 hz hB sa sb λm O=>?_);refine wpS_pure ⟨rfl,.inr ⟨by lia,⟨O.pm,O.fl,O.so⟩,?_⟩⟩;obtain⟨w,hw⟩:=O.pd;rw[hw];simp
  .rw[27];rw[iP k];exact wpS_pure (b j a)
 .rintro c j ⟨rfl,⟨n,_⟩|⟨_,a,_⟩⟩
  .lia
  .exact b j a
theorem TJ(C:↑16)(e: ∀x,x∈(arrOf st).toList->D x)(d:Keyed)(b:2<=(arrOf st).size)(a:(arrOf st).size<128)(h:kindOf st=kd)(q:pendingOf st=#[])(k:failedOf st=none)
   (hq: ∀j,zCD (arrOf st) lt j->Q () j):wpS M A E s sortRuns' Q st:=by
 rw[(show sortRuns'=sRun by kernel_rfl)];rw[27];refine(De b a).e λi o n=>?_;refine wpS_bind (Qg C e d b i o n ⟨Array.Perm.refl _,h,k,q,λ_ hi=>by lia⟩ λr m=>?_);refine wpS_bind (Qh C e b m λc p=>?_);exact wpS_pure (hq c p)
end
end Srt
namespace Srt
open PySem PyProof.Rows
abbrev Rn:=Nat×Nat×Nat
def RunsOk(lt:↑7)(l:List Keyed):Nat->List Rn->Nat->Prop
 |p,[],q=>p=q
 |p,r::rs,q=>r.1=p/\1<=r.2.1/\SL lt l p r.2.1/\RunsOk lt l (p+r.2.1) rs q
section
theorem RunsOk.le: ∀{rs}{p q},RunsOk lt l p rs q->p+↑58<=q
 |[],p,q,h=>by cases h;exact à _
 |r::rs,p,q,h=>by
  have:=RunsOk.le h.2.2.2;have:=h.2.1;rw[lC]
  lia
end
section
variable{kd:SortKind}{lt:↑7}{a₀:V}{st:SortSt}
structure ST(a₀:V)(kd:SortKind)(lt:Keyed->Keyed->Bool)(rs:List Rn)(q:Nat)(st:SortSt):Prop where
 pm:(arrOf st).toList.Perm a₀.toList
 kind:kindOf st=kd
 fl:failedOf st=none
 pd:pendingOf st=rs.toArray
 ok:RunsOk lt (arrOf st).toList 0 rs q
 le:q<=a₀.size
def ST.size(h:ST a₀ kd lt rs q st):(arrOf st).size=a₀.size:=by have:=h.pm.length_eq;simpa using this
end
end Srt
namespace Srt
open PySem PyProof.Rows
noncomputable def kStep(a f:Addr)(b:B0)(ks x:Ŕ):Sem (ForInStep PUnit):=(call (.ref f) [x]).attempt >>= λr=>match r with
 |.ok k=>Builtin.List.listUpdate ks (λv=>v.push k) >>= λ_=>pure (.yield ⟨⟩)
 |.error e=>do
  rule "list.sort.key-raised"
  let m <-Builtin.List.listItems ks
  Builtin.List.listUpdate ks λ_=>#[]
  letGo m.toList.reverse [e]
  Builtin.List.listUpdate (.ref a) λ_=>b
  let _:PUnit <-throw e
  pure (.yield ⟨⟩)
section
variable{prog:ŕ}{w:World}{A:Around}{E:VP}{s:œ}
structure Kd(prog:ŕ)(w:World)(A:Around)(E:VP)(a KS:Addr)(e1:Nat)(vs:A0)(P:PySem.Fin->œ->Prop)(s2:œ):Prop where
 go: ∃(keys:A0)(n:Nat)(kd:SortKind)(D:Keyed->Prop)(lt:↑7),s2.heap.get? a=some (seqObj "list" #[] e1)/\s2.heap.get? KS=some (seqObj "list" keys.toArray n)/\keys.length=↑10/\
  (2<=↑10->wpAny ↑6 A (keyKind' keys.toArray) (λk s'=>s'=s2/\k=kd) E s2/\Cmp ↑6 A E s2 kd D lt/\ ∀p,p∈keys.zip vs->D p)/\
  ∀out:List Keyed,out.Perm (keys.zip vs)->out.Pairwise (Le lt)->P (.done (.ret .none)) {s2 with heap:=(s2.heap.update KS (Obj.mapSeq λ_=>#[])).update a (Obj.mapSeq λ_=>(out.map (·.2)).toArray)}
theorem sort_keyed(v:s.heap.get? a=some (seqObj "list" vs.toArray n0))(T:↑10<128)
  (hk: ∀B,(s.heap.update a (Obj.mapSeq λ_=>#[])).get? a=some (seqObj "list" #[] B)->wpAny ↑6 A (forIn vs PUnit.unit λx _=>kStep a f vs.toArray (.ref (↑0+1)) x)
   (λ_ z=>a≠↑0+1->Kd prog w A E a (↑0+1) B vs P z) E {s with heap:=((s.heap.update a (Obj.mapSeq λ_=>#[])).push (seqObj "tuple" vs.toArray 0)).push (seqObj "list" #[] 0)}):
  wpAny ↑6 A (Builtin.«list.sort» ⟨[.ref a],[("key",.ref f)]⟩) P E s:=by
 unfold Builtin.«list.sort»;dsimp only;rw[iN (by simp),iN (by simp)];have B:List.lookup (Str.ofString "key") [(Str.ofString "key",Value.ref f)]=some (.ref f):=by simp[List.lookup]
 have X:List.lookup (Str.ofString "reverse") [(Str.ofString "key",Value.ref f)]=none:=by
  have:(Str.ofString "reverse"==Str.ofString "key")=false:=by decide+kernel
  simp[List.lookup,this]
 rw[forIn_cons,B,X];refine wB (wB ?_);dsimp only;rw[30];refine wP ?_;dsimp only;rw[forIn_nil];refine wP ?_;rw[28];have O:a<s.heap.objs.size:=ã v;refine wB (listItems_at v rfl ?_);refine wB (listUpdate_at v rfl ?_);obtain⟨q,J⟩: ∃q,(s.heap.update a _).get? a=some (seqObj "list" #[] q):=⟨_,get?_update_seq v (λ_=>#[])⟩
 dsimp only;refine wB (seqEpoch_at J rfl ?_);refine wB (wpAny_newTuple ?_);refine wB (wpAny_newList ?_);refine ù ?_;rw[iP (by rfl)];refine wB (Ğ ?_);have C:((s.heap.update a (Obj.mapSeq λ_=>#[])).push (seqObj "tuple" vs.toArray 0)).objs.size=↑0+1:=by rw[size_push',Heap.size_update]
 dsimp only;rw[C,List.forIn_toArray];refine wB (û (hk q J) (λu z h2=>?_) λ_ _ e=>e);refine((h2 (é (Nat.lt_succ_of_lt O))).go).q λb n kd D lt Y M o S g5=>?_;have I:a≠↑0+1:=é (Nat.lt_succ_of_lt O);rw[iP (by rfl)];refine wB (listItems_at M rfl ?_);rw[30]
 have fin: ∀st:SortSt,failedOf st=none->(arrOf st).toList.Perm (b.zip vs)->(arrOf st).toList.Pairwise (Le lt)->
   wpAny ↑6 A (do
    Builtin.List.listUpdate (.ref (↑0+1)) λ_=>#[]
    letGo ((arrOf st).map (·.1)).toList (failedOf st).toList
    let e <-seqEpoch a
    Builtin.List.listUpdate (.ref a) λ_=>(arrOf st).map (·.2)
    if(e !=q)=true then rule "list.sort.modified" >>= λ_=>raiseErrorWords "ValueError" "list modified during sort" >>= λ(_:Unit)=>ret .none else ret .none) P E z:=by
  intro st hf j hs;refine wB (listUpdate_at M rfl ?_ (by rw[sA0,o];have:=ĝ;lia));refine wB (wpAny_letGo ?_);have i:(z.heap.update (↑0+1) (Obj.mapSeq λ_=>#[])).get? a=some (seqObj "list" #[] q):=by rw[þ _ _ (Ne.symm I)];exact Y
  refine wB (seqEpoch_at i rfl ?_);have m:((arrOf st).map (·.2)).size<=sizeLine+1:=by rw[Array.size_map, <-ï,j.length_eq,Ŀ,o];have:=ĝ;lia
  refine wB (listUpdate_at i rfl ?_ (hsz2:=m));rw[30];have e3:(arrOf st).map (·.2)=((arrOf st).toList.map (·.2)).toArray:=by rw[<-Array.toList_map]
  rw[e3];exact wP (g5 _ j hs)
 by_cases c:vs.toArray.size<2
 .rw[iP c,iP c];rw[28];rw[StateT.run_pure];rw[28];rw[iP (by rfl)];have hz:(b.zip vs).length<=1:=by rw[Ŀ,o];simp at c;lia
  refine fin _ rfl ?_ ?_
  .show(b.toArray.zip vs.toArray).toList.Perm _;simp
  .show(b.toArray.zip vs.toArray).toList.Pairwise _;have:(b.toArray.zip vs.toArray).toList=b.zip vs:=by simp
   rw[this]
   match b.zip vs,hz with
   |[],_=>exact .nil
   |[x],_=>exact List.pairwise_singleton _ _
   |x::y::r,h=>simp at h
 .rw[iN c,iN c];refine(S (by simp at c;lia)).e λU k2 k3=>?_;refine wB (û U (λk s' G=>?_) λ_ _ e=>e);obtain⟨rfl,rfl⟩:=G;have H:(arrOf (SortSt.mk' k (b.toArray.zip vs.toArray) #[] 7 none)).toList=b.zip vs:=by show(b.toArray.zip vs.toArray).toList=_;simp
  have L:(arrOf (SortSt.mk' k (b.toArray.zip vs.toArray) #[] 7 none)).size=vs.length:=by rw[<-ï,H,Ŀ,o,Nat.min_self]
  refine wB (û (TJ (st:=SortSt.mk' k (b.toArray.zip vs.toArray) #[] 7 none) k2 (λp j=>k3 p (by rw[H]at j;exact j)) (.none,.none) (by rw[L];simp at c;lia) (by rw[L];exact T) rfl rfl rfl
   (Q:=λ_ d=>zCD _ lt d) λd h=>h) (λr s3 hr=>?_) λ_ _ e=>e)
  obtain⟨⟨⟩,d⟩:=r;refine hr.h λg W N Z=>?_;subst g;dsimp only;rw[iP (by rfl)];have F:=fin d N (by rw[<-H];exact W) Z;have K:failedOf d=none:=N;unfold failedOf at K;simp only[failedOf]at F;rw[K]at F ⊢;exact F
end
end Srt
namespace Srt
open PySem PyProof.Rows
section
def wp_mapMA{α:Type}{f:α->Sem β}{g:α->β}{l:List α}(h: ∀x,x∈l->wpAny M A (f x) (λr j=>j=s/\r=g x) E s):wpAny M A (l.toArray.mapM f) (λr j=>j=s/\r=(l.map g).toArray) E s:=by rw[List.mapM_toArray];refine wB (û ((show wpAny M A (l.mapM f) (λr j=>j=s/\r=l.map g) E s by
  induction l with
  |nil=>rw[List.mapM_nil];exact wP ⟨rfl,rfl⟩
  |cons x l ih=>
   rw[List.mapM_cons];refine wB (û (h x mF0) (λr j a=>?_) λ_ _ e=>e);rw[a.1,a.2];refine wB (û (ih λy b=>h y (mO _ b)) (λr j a=>?_) λ_ _ e=>e);rw[a.1,a.2];exact wP ⟨rfl,rfl⟩)) (λr j a=>?_) λ_ _ e=>e);obtain⟨rfl,rfl⟩:=a;exact wP ⟨rfl,rfl⟩
def TupAt(h:Heap)(a:Addr)(b:A0):Prop:= ∃o n,h.get? a=some o/\o.cls=.type "tuple"/\o.data=.seq b.toArray n
def TL(h:TupAt s.heap a its):wpAny M A (firstOfTuple' (.ref a)) (λr j=>j=s/\r=its[0]?) E s:=by refine h.c λo n b c d=>?_;refine wB (Ĥ (Z3 o b c) ?_);refine wB (listItems_at b d ?_);exact wP ⟨rfl,by simp⟩
def II(d:l≠[])(h: ∀x,x∈l-> ∃a j,x=.ref a/\TupAt s.heap a j):wpAny M A (oneTypeOnly' l.toArray) (λr m=>m=s/\r=some (.type "tuple")) E s:=by
 refine wB (û (wp_mapMA (g:=λ_=>Value.type "tuple") λx c=>?_) (λr m q=>?_) λ_ _ e=>e)
 .obtain⟨a,j,rfl,o,n,i,k,u⟩:=h x c;exact Ĥ (Z3 o i k) ⟨rfl,rfl⟩
 .obtain⟨rfl,rfl⟩:=q
  match l,d with
  |x::l,_=>
   have p:(List.map (λ_=>Value.type "tuple") (x::l)).toArray[0]? =some (Value.type "tuple"):=by simp
   have b:((List.map (λ_=>Value.type "tuple") (x::l)).toArray.all λx=>x==Value.type "tuple")=true:=by simp only[all_toArray,all_map,ÿ];intro _ _;rfl
   rw[p];dsimp only;rw[b];exact wP ⟨rfl,rfl⟩
def wp_kindT(o:keys≠[])(h: ∀x,x∈keys-> ∃a m b r j,x=.ref a/\TupAt s.heap a m/\m=.ref b::r/\TupAt s.heap b j):
  wpAny M A (keyKind' keys.toArray) (λk q=>q=s/\k=tuples' false) E s:=by
 have n: ∀x, ∃y:Option Ŕ,x∈keys->(∃b j,y=some (.ref b)/\TupAt s.heap b j)/\ ∀M:Model,wpAny M A (firstOfTuple' x) (λr q=>q=s/\r=y) E s:=by
  intro x;by_cases c:x∈keys
  .refine(h x c).p λa m b r j F=>F.h λG p I u=>?_;subst G;subst I;exact⟨some _,λ_=>⟨(YS b j rfl u),λM=>TL p⟩⟩
  .exact⟨none,λz=>absurd z c⟩
 let g:=λx=>Classical.choose (n x);have d: ∀x,x∈keys->(∃b j,g x=some _/\TupAt s.heap b j)/\ ∀M:Model,wpAny M A _ (λr q=>q=s/\r=g x) E s:=λx c=>ā (n x) c;refine wB (û (wp_mapMA λx c=>(d x c).2 M) (λr q i=>?_) λ_ _ e=>e);obtain⟨rfl,rfl⟩:=i;rw[iP (by simp only[all_toArray,all_map,ÿ];intro x c;obtain⟨⟨b,j,e,_⟩,_⟩:=d x c;show(g x).isSome=true;rw[e];rfl)];refine wB (Ğ ?_);have C:(keys.map g).toArray.filterMap id=((keys.map g).filterMap id).toArray:=by simp
 rw[C];refine wB (û (II ?_ ?_) (λr q i=>?_) λ_ _ e=>e)
 .match keys,o,d with
  |x::l,_,d=>
   obtain⟨⟨b,j,e,_⟩,_⟩:=d x mF0;rw[å,e];simp
 .intro x c;refine(mem_filterMap.mp c).a λy w e=>?_;refine(mM.mp w).a λz D B=>?_;obtain⟨⟨b,j,v,t⟩,_⟩:=d z D;have:some x=some (Value.ref b):=by rw[<-v,B];exact e.symm
  cases this;exact YS b j rfl t
 .obtain⟨rfl,rfl⟩:=i;refine wP ⟨rfl,?_⟩;have:((some (Value.type "tuple")).any λx=>x !=Value.type "tuple")=false:=by rfl
  rw[this]
def wp_kindE(c:keys≠[])(h: ∀x,x∈keys-> ∃a,x=.ref a/\TupAt s.heap a []):
  wpAny M A (keyKind' keys.toArray) (λk j=>j=s/\k=oneType') E s:=by
 refine wB (û (wp_mapMA (g:=λ_=>(none:Option Ŕ)) λx b=>?_) (λr j d=>?_) λ_ _ e=>e)
 .refine(h x b).a λa i t=>?_;subst i;exact TL t
 .obtain⟨rfl,rfl⟩:=d
  match keys,c,h with
  |x::l,c,h=>
   rw[30];refine wB (û (II c λx b=>let ⟨a,e,t⟩:=h x b;(YS a ([]) e t)) (λr j d=>?_) λ_ _ e=>e);obtain⟨rfl,rfl⟩:=d;exact wP ⟨rfl,rfl⟩
end
end Srt
namespace Srt
open PySem PyProof.Rows
inductive LexS(A:Around)(s:œ):List Ŕ->List Ŕ->Bool->Prop
 |nn:LexS A s [] [] false
 |nc (x xs):LexS A s [] (x::xs) true
 |cn (y ys):LexS A s (y::ys) [] false
 |eq {y x ys xs k}:SeqAt.EqAt A s y x true->LexS A s ys xs k->LexS A s (y::ys) (x::xs) k
 |ne {y x ys xs k}:SeqAt.EqAt A s y x false->(∀(prog:ŕ)(w:World)(E Q:VP),Q (.bool k) s->wpAny (model prog w) A (richCompare .Lt y x) Q E s)->LexS A s (y::ys) (x::xs) k
section
theorem Qj(vs ws)(i)(a:LexS A s vs ws k):↑10+n=ws.length+m->
   wpAny ↑6 A (forIn ((vs.zip ws).zipIdx i) ((none,())) λz _=>eqBool z.1.1 z.1.2 >>= λe=>if(!e)=true then oneLt' (false&&z.2==0) z.1.1 z.1.2 >>= λr=>pure (.done (some r,()))else pure (.yield (none,())))
    (λr j=>j=s/\(r=(some k,())\/(r=(none,())/\k=decide (m<n)))) E s:=by
 induction a generalizing i with
 |nn=>intro h;rw[zip_nil_left,zipIdx_nil];exact wP ⟨rfl,.inr ⟨rfl,(dF0 (by simp at h;lia)).symm⟩⟩
 |nc x xs=>intro h;rw[zip_nil_left,zipIdx_nil];exact wP ⟨rfl,.inr ⟨rfl,(dT0 (by simp at h;lia)).symm⟩⟩
 |cn y ys=>intro h;rw[List.zip_nil_right,zipIdx_nil,forIn_nil];exact wP ⟨rfl,.inr ⟨rfl,(dF0 (by simp at h;lia)).symm⟩⟩
 |eq he hr ih=>
  intro h;rw[ō,zipIdx_cons,forIn_cons];refine wB (wB (he prog w E _ ?_));exact wP (ih _ (by simpa using(by simp at h;lia)))
 |ne he hr=>
  intro h;refine wB (wB (he prog w E _ ?_));simp only[Bool.false_and];refine wB (wB (hr prog w E _ ((ć ?_))));exact wP (wP ⟨rfl,.inl rfl⟩)
theorem wp_keyLtT(c:TupAt s.heap l its)(o:TupAt s.heap b its2)(d:LexS A s its its2 k)(a:Q k s):
  wpAny ↑6 A (keyLt' (tuples' false) (.ref l) (.ref b)) Q E s:=by
 refine c.c λv B i _ p=>?_;refine o.c λy u j _ q=>?_;refine wB (listItems_at i p (wB (listItems_at j q ?_)));simp only[sA0];refine wB (û (Qj its its2 0 d (m:=its.length) (n:=its2.length) #[0]) (λr z h=>?_) λ_ _ e=>e);obtain⟨rfl,rfl|⟨rfl,e⟩⟩:=h
 .exact wP a
 .dsimp only;rw[<-e];exact wP a
def wp_lt{st:SortSt}(b:kindOf st=kd)(h: ∀ E  Q ,Q k s->wpAny ↑6 A (keyLt' kd x.1 y.1) Q E s)(a:Q (some k) st):
  wpS ↑6 A E s (lt' x y) Q st:=by
 rw[lt'_eq];rw[27];rw[b];refine wpS_bind (wpS_lift (Ć (h _ _ ⟨rfl,?_⟩)));exact wpS_pure a
end
end Srt
namespace L2
namespace M
open PySem PySem.Spec PyProof.Rows
mutual
def cN:MV->Bool
 |.int _=>true
 |.str _=>true
 |.tup ds=>BW ds
 |_=>false
def BW:List MV->Bool
 |[]=>true
 |d::ds=>cN d&&BW ds
end
def ME{α β:Type}{g:α->β}{p m:List β}(h:p.Perm m): ∀l:List α,l.map g=p-> ∃j:List α,j.Perm l/\j.map g=m:=by
 induction h with
 |nil=>intro l e;exact⟨l,.refl _,e⟩
 |cons x _ ih=>
  intro l e
  cases l with
  |nil=>cases e
  |cons a l=>
   injection e with e1 e2
   refine(ih l e2).a λj c o=>?_;exact⟨_,c.cons a,by rw[å,e1,o]⟩
 |swap x y t=>
  intro l e
  match l,e with
  |a::b::l,e=>
   injection e with e1 e2
   injection e2 with e2 e3
   exact⟨_,.swap _ _ _,by rw[å,å,e1,e2,e3]⟩
 |trans _ _ ih1 ih2=>
  intro l e;refine(ih1 l e).a λi p1 k=>?_;refine(ih2 i k).a λn p2 d=>?_;exact⟨n,p2.trans p1,d⟩
section
variable{X:Cx}{α:B9}{H:Hp}{pins:L1}{σ:St}{s:œ}
mutual
theorem Ab(I:↑2): ∀{d m:MV}{v:V},cN d=true->cN m=true->Den X.K α H d v->Den X.K α H m v->d=m
 |.int i,m,v,_,h',q,q'=>by
  cases xR q
  cases m with
  |int j=>cases xR q';rfl
  |str x=>cases xE q'
  |tup ds=>obtain⟨a,vs,e,_⟩:=yQ q';cases e
  |_=>simp[cN]at h'
 |.str x,m,v,_,h',q,q'=>by
  have e:=xE q
  cases m with
  |int j=>rw[xR q']at e;cases e
  |str y=>rw[xE q']at e;injection e with e;rw[uE e]
  |tup ds=>obtain⟨a,vs,b,_⟩:=yQ q';rw[b]at e;cases e
  |_=>simp[cN]at h'
 |.tup ds,m,v,h,h',q,q'=>by
  obtain⟨a,vs,e,t,l⟩:=yQ q
  cases m with
  |int j=>rw[xR q']at e;cases e
  |str y=>rw[xE q']at e;cases e
  |tup es=>
   obtain⟨o,c,b,k,n⟩:=yQ q';rw[e]at b;cases b;have:=I.tuple_inj t k;subst this;rw[IK I (by unfold cN at h;exact h) (by unfold cN at h';exact h') l n]
  |_=>simp[cN]at h'
theorem IK(I:↑2): ∀{ds es:X0}{vs:List V},BW ds=true->BW es=true->DenL X.K α H ds vs->DenL X.K α H es vs->ds=es
 |[],[],_,_,_,_,_=>rfl
 |[],e::es,_,_,_,q,q'=>by obtain⟨v,r,e,_⟩:=q'.uncons;rw[q.isnil]at e;cases e
 |d::ds,[],_,_,_,q,q'=>by obtain⟨v,r,e,_⟩:=q.uncons;rw[q'.isnil]at e;cases e
 |d::ds,e::es,_,h,h',q,q'=>by obtain⟨v,r,rfl,a,l⟩:=q.uncons;obtain⟨k,j,b,i,c⟩:=q'.uncons;cases b;unfold BW at h h';rw[aE]at h h';rw[Ab I h.1 h'.1 a i,IK I h.2 h'.2 l c]
end
def Z9(h:LexR A s xs ys k):Srt.LexS A s xs ys k:=by
 induction h with
 |nn=>exact .nn
 |nc x xs=>exact .nc x xs
 |cn x xs=>exact .cn x xs
 |eq a _ ih=>exact .eq a ih
 |ne a b=>exact .ne a b
inductive KindD:Bool->MV->Prop
 |t (es r):KindD true (.tup (.tup es::r))
 |e:KindD false (.tup [])
abbrev Il(b:Bool):SortKind:=if b=true then tuples' false else oneType'
def AM(I:↑2)(d:Den X.K α H (.tup ds) x)(r:RelV x u): ∃a vs j,u=.ref a/\DenL X.K α H ds vs/\Vals vs j/\Srt.TupAt s.heap a j/\IsTup s.heap a j.toArray:=by refine V0 λi=>?_;refine(yQ d).c λa vs g t l=>?_;subst g;subst r;refine(I.tuple t).b λj c pt _=>?_;obtain⟨o,b,e,n,h⟩:=id pt;refine i ?_;exact XV a vs j rfl l c (Z0 o n b e h) pt
end
structure OrdD(S:Sto)(ks:X0):Prop where
 any: ∀a,a∈ks-> ∀b,b∈ks-> ∃t,GQ S zK a b=some t
 tr: ∀a,a∈ks-> ∀b,b∈ks-> ∀c,c∈ks->GQ S zK b a=some false->GQ S zK c b=some false->GQ S zK c a=some false
 as: ∀a,a∈ks-> ∀b,b∈ks->GQ S zK a b=some true->GQ S zK b a=some false
section
def Ql(F:FnOk X.prog X.w X.K X.mg X.base GP k fa fd ps sp)(c:Room (k+2) X.A)(d:Binds X.K fd ps [])
  (I:↑2) (r:Vals vs us) (h:sp vs H Q E0):wpAny ↑4 X.A.in1.in1 (call (.ref fa) us) (EP X pins σ Q) E' s:=by
 have b:=d s us I.kIn (by rw[aN, <-r.length];exact F.len _ _ _ _ h);rw[aN]at b;refine wpAny_call (codeAny_mono (F.run X.A.in1.in1 X.stack s H ⟨us,[]⟩ us vs Q E0 c.in1.in1 I.env0.in1.in1 b r h) λr i a=>?_)
 cases r with
 |error e=>exact False.elim a
 |ok fl=>
  cases fl with
  |ret u=>exact I.after a
  |next=>exact False.elim a
  |brk=>exact False.elim a
  |cont=>exact False.elim a
def A6(w:Wd g α S H)(x:Ext α H α' H')(a:Wd g α' S H'):α'=α:=by obtain⟨t,e⟩:=x.pre;have c:=w.len;have b:=a.len;rw[e,lA]at b;have:t=[]:=List.length_eq_zero_iff.mp (by lia);rw[e,this,aN]
end
section
variable{ps:C0}
def Df(J:↑2)(f:pZ X pins H e)(y:X.s₀.heap.objs.size<=e)(v:s.heap.get? e=some (seqObj "list" its.toArray n))(hv:Vals ys its)(hz:↑40<=sizeLine):Inv X pins σ (xV H e (.lst ys)) s:=by
 refine⟨J.ok,J.os,J.bare,⟨J.base.keep,J.base.slot,λb a q n j=>?_,J.base.there,λb xs q=>?_,λb d u q=>?_,λb ps q=>?_⟩,J.loc,J.cell,?_,λx c h=>?_,λp i=>?_,λb u q=>?_,J.len⟩
 .rw[zH λz=>(λo z=>absurd (ç (ã z) y) (ĵ _)) a (by rw[<-z];exact q)];exact J.base.free b a q n j
 .rw[zH (zN (J.base.tups b xs q) f.1)];exact J.base.tups b xs q
 .rw[zH (zN (J.base.frzs b d u q) f.1)];exact J.base.frzs b d u q
 .obtain⟨k,z⟩:=J.base.tbls b ps q;exact⟨k,by rw[zH (zN z f.1)];exact z⟩
 .rw[zH (Ne.symm f.2.1)];exact J.free
 .rw[zH (f.2.2.2.2.1 x c h)];exact J.freeC x c h
 .refine(J.pin p i).n λm n ne nf w=>?_;exact⟨m,by rw[zH (f.2.2.2.2.2 p i)];exact n,ne,nf,w⟩
 .by_cases z:b=e
  .subst z;rw[zO]at q;cases q;exact⟨hz,its,n,hv,v⟩
  .rw[zH z]at q;exact(J.hok b u q).stay (λ_ _ _ r=>r) (λc r=>by rw[zH (zN r f.1)];exact r) λc xs r=>by rw[zH (zN r f.1)];exact r
def A7(I:↑2)(y:kds≠[])(c: ∀d,d∈kds->KindD b d)(C:DenL X.K α H kds kvs)(p:Vals kvs ks):
  wpAny ↑4 A (keyKind' ks.toArray) (λq G=>G=s/\q=Il b) E' s:=by
 have ne:ks≠[]:=λz=>by have e:=p.length;have m:=C.length;rw[z]at e;exact y (List.length_eq_zero_iff.mp (by rw[<-m,e];rfl))
 have all: ∀u,u∈ks-> ∃d v,d∈kds/\Den X.K α H d v/\RelV v u:=by
  intro u h;refine V0 λP=>?_;obtain⟨i,hi⟩:=getElem?_of_mem h;have B:i<kvs.length:=by rw[p.length];exact(gS.mp hi).1
  refine(p.get (gE B)).a λN e r=>?_;rw[hi]at e;refine P ?_;cases e;refine(C.get (gE B)).a λd m F=>?_;exact Z0 d _ (è m) F r
 cases b with
 |true=>
  refine Srt.wp_kindT ne λu h=>?_;refine(all u h).c λd v md k r=>?_
  cases c d md with
  |t es rr=>
   refine(AM I k r).i λa vs o g l n t _=>?_;subst g;refine l.uncons.c λM L M D _=>?_;subst M
   cases n with
   |@cons _ u1 _ us1 rv rr'=>
    refine(AM I D rv).i λJ _ j N _ _ E _=>?_;subst N;exact WX a _ J us1 j ⟨rfl,t,rfl,E⟩
 |false=>
  refine Srt.wp_kindE ne λu h=>?_;refine(all u h).c λd v md k r=>?_;cases c d md;refine(AM I k r).i λa vs o O l n t _=>?_;subst O;cases l.isnil;cases n;exact⟨a,rfl,t⟩
end
theorem Dg{ks a:A0}(b:ks.length=N)(c:↑67=N):(List.range N).map (λi=>((ks[i]?).getD .none,(a[i]?).getD .none))=ks.zip a:=by
 apply ext_getElem?;intro i;rw[ó];by_cases hi:i<N
 .have e:(ks.zip a)[i]? =some (ks[i]'#[0],a[i]'#[0]):=by rw[List.getElem?_zip_eq_some];exact⟨gE _,gE _⟩
  rw[List.getElem?_range hi,e];show some ((ks[i]?).getD .none,(a[i]?).getD .none)=_;rw[gE #[0],gE #[0]];rfl
 .rw[getElem?_eq_none (by rw[Ħ];lia),getElem?_eq_none (by rw[Ŀ];lia)];rfl
theorem IL{β:Type}{l:List β}{d:β}{a:Db}(h: ∀i,i∈a->i<l.length):a.map (λi=>(l[i]?).getD d)=a.filterMap (l[·]?):=by
 induction a with
 |nil=>rfl
 |cons i a ih=>
  have hi:=h i mF0;rw[å,ŋ (gE hi),ih λj b=>h j (mO _ b),gE hi];rfl
def Ac(S:Sto)(ds d r:X0):Prop:= ∃b:List Nat,b.Perm (List.range ↑12)/\b.Pairwise (λi j=> ∀a c,d[i]? =some a->d[j]? =some c->GQ S zK c a=some false)/\r=b.filterMap (ds[·]?)
open Classical in
open Classical in
def Dh:bootBuiltins "sorted"=some (.builtin "sorted"):=by decide+kernel
section
variable{a:Expr}{e:Expr}{pos apos:Pos}
def Itq(K:U0)(k:Bool)(a:Addr):It:=if k=true then zBR K a else zBS K a
def iSeq(K:U0)(c:TE):TI:=λσ H R=>c σ H λx b=> ∃k a,x=.ref a/\(∃xs,IA k K b a xs)/\R (Itq K k a) b
def A9(n:PE X l tl):PI X tg l (iSeq X.K tl):=by
 intro pins s σ H R I h;refine wG (n pins s σ H _ I h) λv c ⟨x,i,I1,r,w⟩=>?_;refine w.c λk a e g q=>?_;obtain ⟨xs,m⟩:=g;subst e;subst r
 cases k with
 |true=>
  obtain⟨d,u,p,y⟩:=I1.list (show SqL X.K i a xs from m);refine ļ p.isList ?_;refine XL c.heap.objs.size ([c.heap.objs.size]) _ _ i rfl (I1.kept (t':=c.toks) λb o e=>hP0 _ e) (LK a _) ↑26 (λb j=>?_) q;have e:b=c.heap.objs.size:=by simpa using j
  subst e;rw[29]
 |false=>
  obtain⟨d,u,p,y⟩:=I1.tuple (show SqT X.K i a xs from m);refine wpAny_pyIter_tuple (show c.heap.IsTuple a d.toArray from p) ?_;refine XL c.heap.objs.size ([c.heap.objs.size]) _ _ i rfl (I1.kept (t':=c.toks) λb o e=>hP0 _ e) (HG a _) ↑26 (λb j=>?_) q;have e:b=c.heap.objs.size:=by simpa using j
  subst e;rw[29]
def itQ(r:Er)(S:Sto):R Wk:=match srcOf S r with
 |some q=>.ok ⟨q.ds,q.gs⟩ S
 |none=>.no
def B3(A:zI X W iter f):KC X W tg iter (λB S=>(f B S).bind itQ):=by
 refine A.a λt A k=>?_;refine Z3 _ (A9 A) (λα B S σ H Z O sl q=>k α B S σ H _ O sl (q.bind λu p M n N e P D L c=>?_))
 replace c:=c.shift P
 unfold itQ at c;split at c
 .rename_i q T;refine(AC D T L.1).c λm Y g p1 j=>?_;subst g;refine Z0 q.k m rfl ⟨_,(j.get _ _ _ p1).choose_spec.1⟩ (c.here (u:=Itq X.K q.k m) D ⟨λα S H=>Y α S H,?_,p1,λn M N b z C d x w hs=>j.stays _ _ _ _ _ _ d x w hs,j.st _ _ _ p1⟩);intro i b z C d E;refine(j.get _ _ _ d).a λJ G I=>?_;obtain⟨Q,F,qg⟩:=q
  cases Q with
  |true=>
   obtain⟨h,o⟩:=BC (X:=X) (a:=m) (ds:=F) i b z C (Z3 J G I) E;refine⟨λhi=>⟨(h hi).1,λx H' y=>?_⟩,o⟩;obtain⟨r,s,U,v⟩:=(h hi).2 x H' y;obtain⟨rfl,_⟩:=y;exact⟨r,s,d,v⟩
  |false=>
   obtain⟨h,o⟩:=ZD (X:=X) (a:=m) (ds:=F) i b z C (Z3 J G I) E;refine⟨λhi=>⟨(h hi).1,λx H' y=>?_⟩,o⟩;obtain⟨r,s,U,v⟩:=(h hi).2 x H' y;obtain⟨rfl,_⟩:=y;exact⟨r,s,d,v⟩
 .exact c.elim
theorem DenL.eraseIdx{K:U0}: ∀{ds}{vs} n ,DenL K α H ds vs->DenL K α H (ds.eraseIdx n) (vs.eraseIdx n)
 |[],_,_,q=>by rw[q.isnil];exact zZ
 |d::ds,_,0,q=>by refine q.uncons.c λv r b _ l=>?_;subst b;exact l
 |d::ds,_,n+1,q=>by refine q.uncons.c λv r c a l=>?_;subst c;exact zQ a (DenL.eraseIdx n l)
def Di(p:Er)(rs:List Er)(S:Sto):R Er:=match p with
 |.val (.loc l)=>(match rs with
 |[.val (.int i)]=>match S[l]? with
  |some (.lst ds)=>if -(2 ^ 63)<=i/\i<2 ^ 63 then match NW ds.length i with
   |some j=>match ds[j]? with
    |some d=>.ok (.val d) (S.set l (.lst (ds.eraseIdx j)))
    |none=>.no
   |none=>.no
   else .no
  |_=>.no
 |_=>.no)
 |_=>.no
def B4:SK X W Gd Di:=by
 intro p I x vs α S J H Q B e s G E b;unfold Di at b;split at b;split at b
 .rename_i l i;refine(iA G).a λa g h=>?_;subst g;refine(LW E).a λv v F=>?_;subst v;cases yM F;refine(e.of h).a λA r D=>?_;rw[r]at b
  cases A with
  |lst ds=>
   refine D.a λq m k=>?_;dsimp only at b;split at b
   .rename_i n;split at b
    .rename_i j z;split at b
     .rename_i d C;refine(k.at C).a λy u w=>?_;have c:=e.writex h (Lz m) (o:=.lst (q.eraseIdx j));refine WX a q i j y ⟨rfl,rfl,m,n.1,n.2,by rw[k.length];exact(NY z).1,u,?_⟩;exact(b.shift (s.trans c)).val (e.write h (Lz m) (Z3 _ zO ((k.eraseIdx j).ext c))) (w.ext c)
     .exact b.elim
    .exact b.elim
   .exact b.elim
  |dic _=>exact b.elim
  |ins _ _=>exact b.elim
  |rcd _ _=>exact b.elim
  |fdc _=>exact b.elim
 .exact b.elim
 .exact b.elim
def B5(D:zI X W a f)(K:↑59)
  (hbase:attributeBase a "pop" X.env (eval a X.env)=eval a X.env:=by rfl)
  (hfew:((backTo pos ↑38).all (λx=>!x.1)&&(backToKw pos ↑48).all (λx=>x.1.isSome)
   &&decide ↑3)=true:=by rfl)
  (hline:↑29=true:=by rfl) (hs:q8 X e es:=by rfl) (hplain:q9 X pos es:=by rfl):
  zI X W (.Call (.Attribute a "pop" apos) (e::es) [] pos) (λm S=>(f m S).bind λp j=>if kH p j=true then(af m j).bind λrs S2=>Di p rs S2 else .no):=
 ZC PySem.F.plainAttrs_list PySem.F.slot_list_pop PySem.F.type_list_pop (by
   intro pins s σ H x vs v M Q I J C h;refine h.p λl xs i k y g=>g.u λN O d A G E L q=>?_;subst N;subst O;cases J;refine V0 λT=>?_;refine C.one.a λu P B=>?_;subst P;obtain⟨t,rfl⟩:=B;obtain⟨z,b,n,r,o,e⟩:=I.lstM d;refine(r.get L).a λw hw c=>?_
   refine T ?_;refine call_meets F.slot_list_pop ⟨_,e,rfl⟩ F.entry_list_pop (F.args_list_pop_2 _ _)
    (MeetsSeq.list_pop_at l b.toArray n i t k w (fitsIndex_both A G) (by rw[sA0, <-o];exact E) (by rw[<-ð];exact hw) (by rw[sA0];omega)) ⟨e,?_⟩
   refine Z0 y _ (I.lset (its':=b.eraseIdx k) d e ?_ (r.eraseIdx k) ?_) c q
   .show b.toArray.eraseIdxIfInBounds k=(b.eraseIdx k).toArray;rw[List.eraseIdxIfInBounds_toArray]
   .have:=LP xs k;omega) B4 Hs D K hbase hfew hline hs hplain
def IM:List MV->Option (List String)
 |[]=>some []
 |.typ n::r=>if known n=true then(IM r).map (n::·)else none
 |_=>none
noncomputable def TN(s:List Er)(S:Sto):R Er:=match s with
 |[r,q]=>match q with
  |.val (.tup ts)=>match oE S r with
   |some t=>match IM ts with
    |some ns=>.ok (.val (.bl (ns.any (OY t)))) S
    |none=>.no
   |none=>.no
  |_=>.no
 |_=>.no
end
section
variable{X:Cx}{W:XW}{a o i:Expr}{pins:L1}{σ:St}{s:œ}
def Kinds(t:String):Prop:=t="NoneType"\/t="bool"\/t="int"\/t="str"\/t="tuple"\/t="list"
theorem Ad(a:Kinds t): ∀{ts}{j}{vs}{us},IM ts=some j->DenL X.K α H ts vs->Vals vs us->PySem.W.kitAny X.K (.type t) us=some (j.any (OY t))
 |[],j,vs,us,hn,d,r=>by cases hn;rw[d.isnil]at r;cases r;rfl
 |x::ts,j,vs,us,hn,d,r=>by
  refine d.uncons.c λv q g m l=>?_;subst g
  cases x with
  |typ n=>
   unfold IM at hn;split at hn
   .rename_i b
    cases z:IM ts with
    |none=>rw[z]at hn;cases hn
    |some ns'=>
     rw[z]at hn;cases hn;cases cR m
     cases r with
     |cons r1 r2=>
      subst r1;rw[PySem.W.kitAny,cU X.K a b,List.any_cons]
      cases c:OY t n with
      |true=>rfl
      |false=>exact Ad a z l r2
   .cases hn
  |_=>cases hn
def Dj:CallR X (.builtin "isinstance") (λxs H Q=> ∃α S r x y t ts B,xs=[x,y]/\Wd X.g α S H/\DenX X.K α H r x/\DenX X.K α H (.val (.tup ts)) y/\oE S r=some t/\IM ts=some B/\Q (.bl (B.any (OY t))) H):=by intro pins s σ H xs U Q I G h;refine h.x λα S r x y t ts B V=>V.s λZ C d w b hn q=>?_;subst Z;refine(vals2 G).c λu O ac c A=>?_;subst ac;refine(bF w).c λa vs ad k l=>?_;subst ad;cases A;refine(I.tuple k).b λj m p1 _=>?_;refine((show ∃p:Heap->Prop,PySem.W.KitX X.K u (.type t) p/\p s.heap/\u≠.builtin "__main__.__loader__#opaque"/\Kinds t by
  unfold oE at b;split at b
  .cases b;cases vZ d;cases c;exact⟨_,PySem.W.kitx_none,True.intro,(λz=>nomatch z),.inl rfl⟩
  .cases b;cases sG d;cases c;exact⟨_,PySem.W.kitx_bool,True.intro,(λz=>nomatch z),.inr (.inl rfl)⟩
  .cases b;cases yM d;obtain⟨t,rfl⟩:=c;exact⟨_,PySem.W.kitx_int,True.intro,(λz=>nomatch z),.inr (.inr (.inl rfl))⟩
  .cases b;cases jM d;obtain⟨t,rfl⟩:=c;exact⟨_,PySem.W.kitx_str,True.intro,(λz=>nomatch z),.inr (.inr (.inr (.inl rfl)))⟩
  .cases b;obtain⟨a,vs,rfl,k,l⟩:=bF d;cases c;obtain⟨j,m,p1,_⟩:=I.tuple k;obtain⟨o,e,i,_⟩:=p1;exact⟨_,PySem.W.kitx_tuple,⟨o,e,i⟩,(λz=>nomatch z),.inr (.inr (.inr (.inr (.inl rfl))))⟩
  .cases b
  .cases b
  .cases z:jO S r with
   |none=>rw[z]at b;cases b
   |some ds=>
    rw[z]at b;cases b;obtain⟨a,vs,rfl,k,l⟩:=sM rfl C z d;cases c;obtain⟨j,m,p1,_⟩:=I.list k;obtain⟨o,e,i,_⟩:=p1.isList;exact⟨_,PySem.W.kitx_list,⟨o,e,i⟩,(λz=>nomatch z),.inr (.inr (.inr (.inr (.inr rfl))))⟩)).elim λp Y=>Y.h λJ F v E=>?_;obtain⟨⟨M,N,D,P⟩,e,i,n,L⟩:=p1;cases i;cases L;exact PySem.W.kia_tup J I.kIn F e (Ad E hn l m) v λT=>(Z0 (.bl _) H (I.tok _) rfl q)
def Qm:pF X W (λxs H Q=> ∃α S r x y t ts j,xs=[x,y]/\Wd X.g α S H/\DenX X.K α H r x/\DenX X.K α H (.val (.tup ts)) y/\oE S r=some t/\IM ts=some j/\Q (.bl (j.any (OY t))) H) TN:=by
 intro i vs α S H Q b d a;unfold TN at a;split at a;split at a
 .split at a
  .rename_i t c;split at a
   .rename_i j hn;refine(Tu d).c λv u k e h=>?_;subst k;exact WD (α) S _ v u t _ j ⟨rfl,b,e,h,c,hn,Post.val a b (wN _)⟩
   .exact a.elim
  .exact a.elim
 .exact a.elim
 .exact a.elim
noncomputable def sU(kvs:List (Key×V))(k:Key)(v:V):List (Key×V):=if(kvs.any λa=>decide (a.1=k))=true then kvs.map (λa=>if a.1=k then(a.1,v)else a)else kvs++[(k,v)]
def CA(kvs)(k)(v):(sU kvs k v).length<=kvs.length+1:=by
 unfold sU;split
 .rw[lM];exact le_succ _
 .rw[lA];exact à _
def Qn(r:KV kvs vs)(k:Key)(a:RelV y u):KV (kvs.map λj=>if j.1=k then(j.1,y)else j) (vs.map λj=>if j.1=k then(j.1,u)else j):=by
 induction r with
 |nil=>exact .nil
 |@cons p q ps qs h t ih=>
  rw[å,å];refine .cons ?_ ih;by_cases e:p.1=k
  .rw[iP e,iP (h.1.symm.trans e)];exact⟨h.1,a⟩
  .rw[iN e,iN λz=>e (h.1.trans z)];exact h
def Qo(r:KV kvs vs){q:Key×Ŕ}(h:p.1=q.1/\RelV p.2 q.2):KV (kvs++[p]) (vs++[q]):=by
 induction r with
 |nil=>exact .cons h .nil
 |cons h' t ih=>exact .cons h' ih
def XF(r:KV kvs vs)(k)(b:RelV y u):KV (sU kvs k y) (stored vs k u):=by
 unfold sU stored;rw[(show (kvs.any λa=>decide (a.1=k))=vs.any λa=>decide (a.1=k) by
   induction r with
   |nil=>rfl
   |cons h t ih=>rw[List.any_cons,List.any_cons,ih,h.1])];by_cases e:(vs.any λa=>decide (a.1=k))=true
 .rw[iP e,iP e];exact Qn r k b
 .rw[iN e,iN e];exact Qo r ⟨rfl,b⟩
def PY{a b:Key}(h:KeyD k a)(h':KeyD k b):a=b:=by
 cases k with
 |int i=>exact Eq.trans h h'.symm
 |str x=>exact Eq.trans h h'.symm
 |_=>exact False.elim h
def IO{a:Key}(h:KeyD k a)(h':KeyD k' a):k=k':=by
 cases k with
 |int i=>
  subst h
  cases k' with
  |int j=>have b:(Sum.inl i:Key)=.inl j:=h';cases b;rfl
  |str y=>have b:(Sum.inl i:Key)=.inr _:=h';cases b
  |_=>exact False.elim h'
 |str x=>
  subst h
  cases k' with
  |int j=>have b:(Sum.inr _:Key)=.inl j:=h';cases b
  |str y=>
   have b:=h';injection b with b
   rw[uE b]
  |_=>exact False.elim h'
 |_=>exact False.elim h
theorem TQ: ∀{kvs}{ks}{k}{k'},DenK X.K α H kvs ks->KeyD k k'->(ks.any λj=>decide (j.1=k'))=(look kvs k).isSome
 |_,_,k,k',.nil,hk=>rfl
 |_,_,k,k',.cons (k:=c) (k':=c') hc a l,hk=>by
  rw[look_cons,List.any_cons];by_cases h:c=k
  .subst h;rw[iP rfl,dT0 (PY hc hk)];rfl
  .have hn: ¬c'=k':=λz=>h (IO hc (z.symm▸hk));rw[iN h,dF0 hn];exact TQ l hk
theorem IP: ∀{kvs}{ks}{k d}{k'}{v},DenK X.K α H kvs ks->KeyD k k'->Den X.K α H d v->DenK X.K α H (kvs.map λp=>if p.1=k then(p.1,d)else p) (ks.map λj=>if j.1=k' then(j.1,v)else j)
 |_,_,k,d,k',v,.nil,hk,hd=>.nil
 |_,_,k,d,k',v,.cons (k:=c) (k':=c') hc a l,hk,hd=>by
  rw[å,å];by_cases h:c=k
  .subst h;rw[iP rfl,iP (PY hc hk)];exact .cons hc hd (IP l hk hd)
  .have hn: ¬c'=k':=λz=>h (IO hc (z.symm▸hk));rw[iN h,iN hn];exact .cons hc a (IP l hk hd)
theorem DenK.append: ∀{kvs j}{xs m},DenK X.K α H kvs xs->DenK X.K α H j m->DenK X.K α H (kvs++j) (xs++m)
 |_,_,_,_,.nil,h=>h
 |_,_,_,_,.cons hk a l,h=>.cons hk a (DenK.append l h)
theorem DenK.length: ∀{kvs}{xs},DenK X.K α H kvs xs->↑8=kvs.length
 |_,_,.nil=>rfl
 |_,_,.cons _ _ l=>by rw[lC,lC,DenK.length l]
def IQ(l:DenK X.K α H kvs ks)(a:KeyD k k')(b:Den X.K α H d v):DenK X.K α H (putK kvs k d) (sU ks k' v):=by
 unfold putK sU;rw[TQ l a];by_cases h:(look kvs k).isSome=true
 .rw[iP h,iP h];exact IP l a b
 .rw[iN h,iN h];exact l.append (.cons a b .nil)
def DK(X:Cx)(H:Hp)(d:Addr)(ks:List (Key×V)):Prop:=H d=some (.dK ks)\/(ks=[]/\H d=some (DN X.prog X.w d []))
def DK.nf(h:DK X H d ks): ∀ob u,H d≠some (.frz ob u):=h.elim (λz=>Lz z) λz=>by first |exact Lz z.2|exact z.elim
def eQ(I:↑2)(h:DK X H d ks):ks.length<=sizeLine/\(d==sysModules)=false/\ ∃vs,KV ks vs/\s.heap.DictOf (wO X.prog X.w) d vs:=by
 rcases h with h|⟨rfl,h⟩
 .exact(I.hok d _ h)
 .obtain⟨⟨m,hs,o,es,b,k,j,i,c,hn⟩,_⟩:=(I.hok d _ h)
  have a:=c;refine⟨zero_le _,hs,[],.nil,o,es,b,k,j,i,λe hm=>?_,by rw[a];exact .nil,Ł⟩;rw[<-Array.mem_toList_iff,a]at hm;exact absurd hm (by simp)
theorem XG:CallR X (.type "list") ↑72:=by
 intro pins s σ H xs us Q I r h;refine V0 λT=>?_;refine h.k λd ks g B J q=>?_;subst g;refine(vals1 r).a λu u G=>?_;subst u;subst G;obtain⟨z,M,vs,n,F⟩:=eQ I B;obtain⟨O,o⟩:=F.dictAt;have m:=Paired.length n;refine T ?_;refine PySem.W.kdl_call (PySem.W.kdl_dict M) (I.ok.hd J) o #[0] λh' P y N E K c=>?_
 have C:=by
  have A: ∀{ks:List _}{vs:List _}{us:A0},KV ks vs->↑66=↑10->(∀(j:Nat)(v:Ŕ),us[j]? =some v-> ∃(k:Key)(x:Ŕ),vs[j]? =some (k,x)/\(wO X.prog X.w).is k v=true)->Vals (ks.map λp=>kV p.1) us:=by
   intro ks vs us D
   induction D generalizing us with
   |nil=>intro m _;cases us with
    |nil=>exact .nil
    |cons a b=>simp at m
   |@cons p q ps qs h t ih=>
    intro m hv
    cases us with
    |nil=>simp at m
    |cons a b=>
     refine(hv 0 a rfl).d λk x e hi=>?_;simp only[List.getElem?_cons_zero,Option.some.injEq]at e;subst e;rw[å];refine .cons ?_ (ih (by simpa using m) λj v L=>by simpa using hv (j+1) v (by simpa using L));rw[h.1];rcases yB hi with⟨i,t,e1,e2⟩|⟨i,t,e1,e2⟩
     .subst e2;rw[show k=.inl i from e1];exact⟨t,rfl⟩
     .subst e2;rw[show k=.inr i from e1];exact⟨t,rfl⟩
  exact A n (by rw[ï];exact c.1) λj v e=>c.2 j v (by rw[<-ð];exact e)
 refine Z0 (.ref ↑0) _ (I.laid E (à _) (show ObjOk X.prog X.w _ h' _ (.lst _)from⟨by rw[lM];exact z,y.toList,N,C,?_⟩)) rfl (q _ ↑25);exact K
theorem MG: ∀{kvs}{ks},DenK X.K α H kvs ks->DenL X.K α H (kvs.map (·.1)) (ks.map λp=>kV p.1)
 |_,_,.nil=>zZ
 |_,_,.cons (k:=c) (k':=c') hc a l=>by
  refine zQ ?_ (MG l)
  cases c with
  |int i=>rw[show c'=.inl i from hc];exact xM i
  |str x=>rw[show c'=.inr _ from hc];exact mE x
  |_=>exact False.elim hc
end
noncomputable def Im(k:Key)(l:List Key):Bool:=l.any λj=>decide (j=k)
noncomputable def qF(val:Nat->Key):Nat->List Key
 |0=>[]
 |i+1=>if Im (val i) (qF val i)=true then qF val i else qF val i++[val i]
theorem uI(val)(i):qF val (i+1)=if Im (val i) (qF val i)=true then qF val i else qF val i++[val i]:=rfl
theorem Ae(val): ∀i,(qF val i).length<=i
 |0=>à _
 |i+1=>by
  have j:=Ae val i;rw[uI];split
  .exact ô j (le_succ _)
  .rw[lA];exact Nat.succ_le_succ j
def Io(val)(i)(k):Im k (qF val (i+1))=(Im k (qF val i) || decide (k=val i)):=by
 rw[uI];by_cases h:Im (val i) (qF val i)=true
 .rw[iP h];by_cases e:k=val i
  .rw[e,h];rfl
  .rw[dF0 e,Bool.or_false]
 .rw[iN h];unfold Im;rw[List.any_append,List.any_cons,List.any_nil,Bool.or_false];by_cases e:val i=k
  .rw[dT0 e,dT0 e.symm]
  .rw[dF0 e,dF0 λz=>e z.symm]
theorem Ip(val)(i):(qF val (i+1)).length=if Im (val i) (qF val i)=true then(qF val i).length else(qF val i).length+1:=by
 rw[uI];split
 .rfl
 .rw[lA];rfl
abbrev KSet(P:Program)(w:World)(h:Heap)(D:Addr)(val:Nat->Key)(i:Nat):Prop:=h.SetOf (wO P w) D (λk=>Im k (qF val i)) (qF val i).length
def KSet.move(x:KSet P w h D val i)(m: ∀o,h.get? D=some o->h'.get? D=some o):KSet P w h' D val i:=by refine x.j λo es a t c=>c.elim λb r=>?_;exact YQ o es a t ⟨m o b,r⟩
def StrAt(val:Nat->Key)(i:Nat)(v:Ŕ):Prop:=(∃x t,val i=.inr x/\v=.str x t)\/ ∃x t,val i=.inl x/\v=.int x t
def StrAt.is(h:StrAt val i v):(wO P w).is (val i) v=true/\v.scannable=true:=by
 rcases h with⟨x,t,e,rfl⟩|⟨x,t,e,rfl⟩<;>rw[e]
 .exact⟨sC P w x t,rfl⟩
 .exact⟨FB P w x t,rfl⟩
section
variable{R:Result->œ->Prop}{St:Nat->œ->Prop}
theorem MH(W:PySem.WalksS P w A.in1 I fp wr G n Pv St)(c:D∉fp)(hv: ∀i v,Pv i v->StrAt val i v)(a:n+1<scanBound):
  ∀ k i  s ,i+k=n->St i s->KSet P w s.heap D val i->
   (∀j,PySem.Moved (D::wr) G s j->KSet P w j.heap D val n->R (.ok (.ret .none)) j)->codeAny (model P w) A (.builtin "set.update.loop" ⟨[.ref D,.ref I],[]⟩) R s
 |0,i,s,hk,st,hs,q=>by have e:=hk;subst e;refine Ģ F.entry_set_update_loop ?_;refine wB (W.done s _ _ st λj m=>?_);exact wP (q j (m.mono λb a=>.tail _ a) (hs.move λo=>m.heap D o λz=>c (W.sub _ z)))
 |k+1,i,s,hk,st,hs,q=>by
  refine Ģ F.entry_set_update_loop ?_;show wpAny _ A.in1 _ _ _ s;refine wB (W.item i s _ _ #[0] st λv j B h m=>?_);obtain⟨hi,d⟩:=(hv i v B).is;have le:=Ae val i;refine wB (ù ?_);refine ù (wB ((wO P w).pyHash hi ?_));refine wpAny_setAddHashed_of hi d (hs.move λo=>m.heap D o λz=>c (W.sub _ z)) #[0] λy sb u=>?_;have r:KSet P w y D val (i+1):=by unfold KSet;rw[show(λk=>Im k _)=(λk=>Im k _ || decide _)from funext (Io val i),Ip];exact u
  refine wP ⟨Ŏ F.plain_set_update_loop _,MH W c hv a k _ _ #[0] (W.frame _ j _ _ h (le_succ _) λb a o e=>?_) r λC E p=>?_⟩
  .rw[sb.2 b λz=>c (z▸a)];exact e
  .refine q C (PySem.Moved.trans W.gtrans ((m.mono λb a=>.tail _ a).then_heap (le_succ _) λb o a e=>?_) E) p;rw[sb.2 b λz=>a (by rw[z];exact .head _)];exact e
end
section
noncomputable abbrev bH(a:Bool):Obj:={cls:=.type "set",dict:=none,data:=.set #[] 0 (.fresh 0 0 a)}
def zAA(c:h.get? a=some (bH led)):KSet P w h a val 0:=
 (YQ _ (#[]) 0 _ ⟨c,⟨rfl,rfl,rfl⟩,rfl,λe b=>absurd b (by simp),λk=>⟨λz=>absurd z xF0,λ⟨e,b,_⟩=>absurd b (by simp)⟩,by unfold scanBound;decide,rfl,rfl⟩)
end
section
def PZ(hh:↑70)(p:s.heap.IsList l items\/s.heap.IsTuple l items)(hv: ∀ i  v ,items[i]? =some v->StrAt val i v)(hb:↑45+1<scanBound)
  (h: ∀ h'  B ,KSet P w h' ↑0 val ↑45->↑36->Q (.ref ↑0) {s with heap:=h',toks:=B}):
  wpAny (model P w) A (call (.type "set") [.ref l]) Q E s:=by
 refine F.called_set.mro.m λc tl U=>?_;have G:=F.called_set.made;have T:=F.called_set.sub;refine wpAny_call (codeAny_of_tree ?_);show wpAny _ _ (callAny (.type "set") _) _ _ _;refine wP ⟨Code.quiet_builtin _ ↑50,Ģ F.entry_type_call ?_⟩;rw[Around.under_plain (weight_type_call_type "set" [.ref l] []) rfl];have h1:=F.called_set.notType;have h2:=F.called_set.canCreate;have Y:=F.typeCall_set_1 (.ref l)
 rw[26]
 refine codeAny_mono (code_set_new_1 (.ref l) (E:=E) (Q₁:=λS X=> ∃a:Bool,S=.ref ↑0/\X={s with heap:=s.heap.push (bH a)}) λa=>(Z3 a rfl rfl)) λr X H=>?_
 cases r with
 |error e=>exact H
 |ok fl=>
  cases fl with
  |ret S=>
   obtain⟨a,rfl,rfl⟩:=H;have N:(s.heap.push (bH a)).get? ↑0=some (bH a):=á _ rfl;have hT:Shared.TypeIs {s with heap:=s.heap.push (bH a)} (.ref ↑0) "set":=⟨_,N,rfl⟩
   have af:=F.called_set.init.lookup;have aj:=F.called_set.init.bind (.ref ↑0)
   rw[26]
   refine codeAny_mono (codeAny_call_builtin (R:=wants (λr O=>r=.none/\ ∃h' B,O={s with heap:=h',toks:=B}/\KSet P w h' ↑0 val ↑45/\ ∀b o,s.heap.get? b=some o->h'.get? b=some o) E)
    F.called_set.init.plain F.entry_set_init (check_set_init_1 hT ?_)) λr2 O j=>?_
   .have Z:=PySem.F.sub_list_set;have ab:=PySem.F.sub_list_frozenset;have aa:(Value.type "list"==Value.type "dict")=false:=by decide
    have ag:=PySem.F.sub_tuple_set;have ah:=PySem.F.sub_tuple_frozenset;have ai:(Value.type "tuple"==Value.type "dict")=false:=by decide
    have W:A.in1.in1.in1.handled=none:=by simp[hh]
    rcases p with p|p
    all_goals
     have d:=p.push (bH a);obtain⟨⟨oc,od,ae,os⟩,q,J,nl,L⟩:=p;cases J;cases L;have M:=hP0 (bH a) q;have lt:l<s.heap.objs.size:=ã q;unfold Builtin.«set.__init__» noKeywords Builtin.Frozenset.updateFrom;generalize y:pyIter=PI
     wp_walk
     subst y
     first |refine ļ d ?_|refine wpAny_pyIter_tuple d ?_
     refine wB (wpAny_runValue ?_);have u:l<(s.heap.push (bH a)).objs.size:=by rw[Ĕ];exact Nat.lt_succ_of_lt lt
     have out:↑0∉[(s.heap.push (bH a)).objs.size,l]:=by
      rw[Ĕ];intro z;rcases mC.mp z with z|z
      .exact absurd z (é (Nat.lt_succ_self _))
      .exact absurd (mS.mp z) (ú lt)
     refine MH (by first |(have:=(d:Heap.IsList _ _ _);exact(Walks.list W _ l (é u) items).toS)|exact(Walks.tuple W _ l (é u) items).toS) (D:=↑0) (val:=val) out hv hb ↑45 0 _ (Ă _) ?_ ?_ ?_
     .exact⟨⟨_,á _ rfl,rfl,rfl⟩,d.push _⟩
     .exact zAA (hP0 _ N)
     intro s' m k;obtain⟨h',g',d',K,I⟩:=s';have e1:g'=s.gens:=m.gens;have e2:d'=s.drawn:=m.drawn;have e3:I=s.os:=m.os;subst e1;subst e2;subst e3;rw[25];refine wP ?_;show wpAny _ _ (ret Value.none) _ _ _;refine wP ⟨rfl,h',K,rfl,k,λb o e=>?_⟩;have n:=ã e;refine m.heap b o (λz=>?_) (hP0 _ (hP0 _ e));rcases mC.mp z with z|z
     .exact absurd z (é n)
     .rw[Ĕ]at z;exact absurd (mS.mp z) (é (Nat.lt_succ_of_lt n))
   .cases r2 with
    |error e=>exact j
    |ok fl2=>
     cases fl2 with
     |ret r=>
      obtain⟨rfl,h',B,rfl,k,C⟩:=j
      rw[26]
      exact h _ _ k C
     |_=>exact j.elim
  |_=>exact H.elim
end
section
variable{p1 p2 pos1 pos2:Pos}
def XH(ys:Ch)(i:Nat):Key:=.inr (bC (ys.getD i []))
def diff(ys:Ch):Nat:=(qF (XH ys) ↑40).length
noncomputable def B8(P:ŕ)(w:World)(l:Addr)(ys:Ch):HO:=.ext λh=>KSet P w h l (XH ys) ↑40
theorem Af: ∀{ys}{us},Vals (ys.map λx=>V.str (bC x)) us->↑66=↑40/\ ∀ i  v ,us[i]? =some v->StrAt (XH ys) i v
 |[],us,r=>by cases r;exact⟨rfl,λi v h=>by simp at h⟩
 |y::ys,us,r=>by
  cases r with
  |cons r1 r2=>
   obtain⟨t,rfl⟩:=r1;obtain⟨a,b⟩:=Af r2;refine⟨by rw[lC,lC,a],λi v h=>?_⟩
   cases i with
   |zero=>
    simp at h;exact .inl (YS (bC y) t rfl h.symm)
   |succ i=>exact b i v (by simpa using h)
theorem Dk:CallR X (.type "set") (λxs H Q=> ∃a k ys,xs=[.ref a]/\IA k X.K H a (ys.map λx=>V.str (bC x))/\↑40<4000/\X.calm=true/\ ∀l,H l=none->Q (.ref l) (xV H l (B8 X.prog X.w l ys))):=by
 intro pins s σ H xs L Q I r h;refine V0 λM=>?_;refine h.i λa k ys u m hn E q=>?_;subst u;refine(vals1 r).a λu G D=>?_;subst G;subst D;have fin: ∀(h':Heap)(e:Nat)(n:Nat),n=↑40->KSet X.prog X.w h' ↑0 (XH ys) n->↑36->EP X pins σ Q (.ref ↑0) {s with heap:=h',toks:=e}:=by intro h' e n y hs j;subst y;refine Z0 (.ref ↑0) _ (I.laid (o:=B8 X.prog X.w ↑0 ys) j (à _) ⟨hs,?_,λG J z B=>z.move B⟩) rfl (q _ ↑25);refine hs.j λo _ _ _ g=>g.elim λC _=>?_;exact⟨o,C⟩
 obtain⟨c,d,p⟩: ∃c,Vals (ys.map λx=>V.str (bC x)) c/\(s.heap.IsList a c.toArray\/s.heap.IsTuple a c.toArray):=by
  cases k with
  |true=>obtain⟨c,d,p,_⟩:=I.list m;exact⟨c,d,.inl p.isList⟩
  |false=>obtain⟨c,d,p,_⟩:=I.tuple m;exact⟨c,d,.inr p⟩
 obtain⟨F,A⟩:=Af d;have sz:c.toArray.size=ys.length:=by rw[sA0];exact F
 refine M ?_;exact PZ (I.ok.hd E) p (λi v h=>A i v (by simpa using h)) (by rw[sz];unfold scanBound;lia) λh' e hs j=>fin h' e _ sz hs j
noncomputable def strsOf:List MV->Option (List (List Nat))
 |[]=>some []
 |.str x::r=>(strsOf r).map (x::·)
 |_=>none
theorem TR{K:U0}: ∀{ds}{ys}{vs},strsOf ds=some ys->DenL K α H ds vs->vs=ys.map λx=>V.str (bC x)
 |[],ys,vs,h,d=>by cases h;rw[d.isnil];rfl
 |x::ds,ys,vs,h,d=>by
  refine d.uncons.c λv r a j l=>?_;subst a
  cases x with
  |str x=>
   unfold strsOf at h
   cases z:strsOf ds with
   |none=>rw[z]at h;cases h
   |some zs=>
    rw[z]at h;cases h;rw[å,xE j,TR z l]
  |_=>cases h
noncomputable def MK(rs:List Er)(S:Sto):R Er:=match rs with
 |[r]=>match srcOf S r with
  |some q=>match strsOf q.ds with
   |some ys=>if ys.length<4000 then .ok (.val (.int (diff ys:Nat))) S else .no
   |none=>.no
  |none=>.no
 |_=>.no
def Qp(O:X.calm=true)(F:Gl X "len")(hm:X.mg "len"=none)(m:Gl X "set")(c:X.mg "set"=none)(n:GF X W [e] af)
  (he:starEach [e] X.env=(false,eval e X.env)::starEach [] X.env:=by rfl) (hpl:(backTo pos2 (starEach [] X.env)).any (·.1)=false:=by rfl)
  (he1:starEach [.Call (.Name "set" p2) [e] [] pos2] X.env=(false,eval (.Call (.Name "set" p2) [e] [] pos2) X.env)::starEach [] X.env:=by rfl) (hpl1:(backTo pos1 (starEach [] X.env)).any (·.1)=false:=by rfl):
  zI X W (.Call (.Name "len" p1) [.Call (.Name "set" p2) [e] [] pos2] [] pos1) (λz S=>(af z S).bind MK):=by
 refine n.a λt n k=>?_;refine Z3 _ (RW (show CallR X (.builtin "len") (λxs H Q=> ∃l ys,xs=[.ref l]/\↑40<4000/\H l=some (B8 X.prog X.w l ys)/\Q (.int (diff ys)) H) by
   intro pins s σ H xs us Q I r h;rw[31];refine h.k λl ys o hn b q=>?_;subst o;refine(vals1 r).a λu u M=>?_;subst u;subst M;obtain⟨hs,_⟩:=(I.hok l _ b)
   refine hs.j λo es ep t g=>g.u λK j hd U v Y D J=>?_;have d:diff ys=es.size:=J.symm;rw[d]at q;have P:es.size<4096:=Y;refine bw ?_;exact call_len_set K j hd D #[0] (Z0 (.int _) H (I.tok _) ⟨s.toks+1,rfl⟩ q)) F hm Hr (NV (DT Dk m c ↑50 n ↑11 ↑11 he hpl) WG he1) ↑11 ↑11 he1 hpl1) (λα z S σ H Q G sl q=>k α z S σ H _ G sl (q.bind λvs rs S1 A H1 y L i B a=>?_))
 replace a:=a.shift L
 unfold MK at a;split at a
 .rename_i r;split at a
  .rename_i q y;split at a
   .rename_i ys C;split at a
    .rename_i hn;refine(LW B).a λu V Z=>?_;subst V;refine(AC i y Z).c λl1 P1 ac E T=>?_;subst ac;refine(T.get _ _ _ E).a λus p N=>?_;rw[TR C N]at p;exact XV l1 q.k ys rfl p hn O (λl b=>(Ym l ys rfl hn zO ((a.shift (i.newx b)).val (i.new b) (xM _))))
    .exact a.elim
   .exact a.elim
  .exact a.elim
 .exact a.elim
theorem Ag(h:ys.Nodup): ∀i,i<=↑40->qF (XH ys) i=(ys.take i).map λx=>(.inr (bC x))
 |0,_=>rfl
 |i+1,hi=>by
  have m:i<ys.length:=hi;rw[uI,Ag h i (le_of_lt m)];have hv:XH ys i=.inr (bC ys[i]):=by unfold XH;refine qq ī (qq (gE m) ?_);rfl
  rw[iN,List.take_add_one,gE m,ñ,hv]
  .rfl
  .intro z;unfold Im at z;refine(List.any_eq_true.mp z).a λy b e=>?_;refine(mM.mp b).a λx a g=>?_;subst g;have e:=ė e;rw[hv]at e;injection e with e
   have e:=uE e;obtain⟨j,d,c⟩:=List.mem_take_iff_getElem.mp a;have:j=i:=(getElem_inj h).mp (c.trans e);lia
def Qq(h:ys.Nodup):diff ys=ys.length:=by unfold diff;rw[Ag h _ (à _),take_length,lM]
end
section
variable{o e:Expr}{es:Q0}{id:String}
def vA(X:Cx)(T:String)(c:V->Hp->Prop):Prop:= ∀(pins:L1)(s:œ)(σ:St)(H:Hp)(x:V)(v:Ŕ),Inv X pins σ H s->RelV x v->c x H->s.TypeIs v T/\ ∀a,v=.ref a-> ∃b,s.heap.get? a=some b/\b.dict=none
def IR(b:vA X T TY)(w:PlainAttrs T)(a:Slot T name id)(c:↑47)(hm:Gb X id r)(C:PE X o to)(B:PA X (e::es) t)
  (hbase:attributeBase o name X.env (eval o X.env)=eval o X.env)
  (hfew:((backTo pos ↑38).all (λx=>!x.1)&&(backToKw pos ↑48).all (λx=>x.1.isSome)
   &&decide ↑3)=true)
  (hline:↑29=true) (hs:starEach (e::es) X.env=(false,eval e X.env)::starEach es X.env) (hplain:(backTo pos (starEach es X.env)).any (·.1)=false):
  PE X (.Call (.Attribute o name apos) (e::es) [] pos) (λσ H Q=>to σ H λx j=>TY x j/\t σ j λvs m=>r x vs m Q):=by
 rw[22];refine wpAny_Call_method_late hbase hfew hline rfl (wG (C pins s σ H _ I h) λv i ⟨x,j,I1,d,y,D⟩=>?_);obtain⟨n,p⟩:=b pins i σ j x v I1 d y;refine Yk T id ⟨w,a,c,n,p,?_⟩;have k:=B pos pins i σ j _ I1 D;rw[hs]at k ⊢;refine Calls.callWith_builtin (by show(false || (backTo pos _).any (·.1))=false;rw[hplain]<;>rfl) (Calls.evalArgs_plain ?_);exact wG k λE z ⟨vs,m,q,u,A⟩=>hm pins z σ m x vs v E Q q d u A
def TyD(X:Cx)(x:V)(H:Hp):Prop:= ∃d xs,x=.ref d/\DD X H d xs
def sV:vA X "dict" (TyD X):=by
 intro pins s σ H x v I j ⟨d,xs,e,k⟩;subst e;subst j;rcases k with h|⟨rfl,h⟩
 .obtain⟨⟨n,hs,o,es,i,c,b,_⟩,_⟩:=(I.hok d _ h)
  exact⟨⟨o,c,b.1⟩,λa e=>by cases e;exact⟨o,c,b.2.1⟩⟩
 .obtain⟨_,hs,vs,m,o,es,i,c,b,_⟩:=(I.hok d _ h)
  exact⟨⟨o,c,b.1⟩,λa e=>by cases e;exact⟨o,c,b.2.1⟩⟩
end
section
variable{KK:Type}[DecidableEq KK]{knd:HeapKind P w KK}
theorem Dm(z:knd.room A)(c:knd.is s.heap k a)(hm:s.heap.DictOfH knd d xs)
  (h1: ∀p,atKey xs k=some p->Q p.2 {s with toks:=s.toks+knd.draws k})
  (h2:atKey xs k=none-> ∀h',h'.DictOfH knd d (storedH xs k a v)->Heap.SameBut d s.heap h'->Q v {s with heap:=h',toks:=s.toks+knd.draws k}) (hsz:↑8<=sizeLine):
  wpAny (model P w) A (dictSetDefault d (.ref a) v) Q E s:=by
 refine hm.g λo es C g=>g.f λn D i u r hn=>?_;unfold dictSetDefault
 try with_reducible refine ù ?_
 refine wB (knd.pyHash z c ?_);refine wB (wpAny_dictFind_heap z c n i u r hn ?_ ?_)
 .intro q;have b:=atKey_none_of_get q;have m:=storedH_new b
  refine wB (Ğ (wB (wpAny_updateDictKeys (hz:=by have e:=size_of_entries u;lia) n i (wP (h2 b _ (YR _ _ (C+1) ⟨ķ _ n (Obj.isFreed_of_dict (Obj.data_mapDictKeys i _)),D.mapDictKeys _,Obj.data_mapDictKeys i _,?_,?_,?_⟩) (č ..))))))
  .rw[m];simp[u,entryOfKey]
  .rw[m];intro x h;rcases ê.mp h with h|h
   .exact knd.keeps (r x h) n i (č ..)
   .rw[mS.mp h];exact knd.keeps c n i (č ..)
  .rw[m,ñ,ĥ];refine⟨hn,by simp,λx h y F=>?_⟩;rw[mS.mp F];rintro rfl;exact not_mem_keys_of_get q h
 .intro j p B;refine wB (ď n i ?_);rw[entry_at u j,B];exact wB (Ğ (wP (h1 _ (atKey_of_get hn B))))
end
section
variable{X:Cx}{o:Expr}{apos pos:Pos}
theorem QA: ∀{kvs}{xs}{k j}{nk},DenN X.K α H kvs xs->yY k=some nk->look kvs k=some j-> ∃a u v,atKey xs nk=some (a,u)/\Den X.K α H j v/\RelV v u
 |_,_,k,j,nk,.nil,hk,h=>by cases h
 |_,_,k,j,nk,.cons (k:=k') (nk:=nk') (a:=a) (v:=v) (u:=u) hk' e ha hd r l,hk,h=>by
  rw[look_cons]at h;by_cases c:k'=k
  .subst c;have:=by rw[hk]at hk';exact(ä hk').symm
   rw[iP rfl]at h;cases h;exact YR a u v ⟨by rw[AG,iP this],hd,r⟩
  .have hn:nk'≠nk:=λz=>c (BQ hk' (by rw[hk,z]));rw[iN c]at h;refine(QA l hk h).g λo m d g=>g.e λb i n=>?_;exact YR o m d ⟨by rw[AG,iN hn];exact b,i,n⟩
def rSD(X:Cx):V->List V->Hp->VK->Prop:=λx vs H Q=> ∃(α:B9)(kvs:zA2)(xs:↑46)(a d:Addr)(k:MV)(nk:NK)(y:V),x=.ref d/\vs=[.ref a,y]/\DD X H d xs/\DenN X.K α H kvs xs/\yY k=some nk/\eM nk<=4/\Den X.K α H k (.ref a)/\↑8<sizeLine/\
 (∀b v,look kvs k=some b->Den X.K α H b v->Q v H)/\(look kvs k=none-> ∀u,RelV y u->Q y (xV H d (DN X.prog X.w d (storedH xs nk a u))))
def zAC(p:Er)(k y:MV)(a:Sto):R Er:=match jW a p with
 |some (l,kvs)=>if keyOk k=true/\kvs.length<1000000 then match look kvs k with
  |some d=>.ok (.val d) a
  |none=>.ok (.val y) (a.set l (.dic (putK kvs k y)))
  else .no
 |none=>.no
def N3(p:Er)(rs:List Er)(S:Sto):R Er:=match rs with
 |[.val k,r]=>(kE r S).bind λy a=>zAC p k y a
 |_=>.no
def sW(p:Er)(S:Sto):Bool:=(jW S p).isSome
def zAD:SK X W (rSD X) N3:=by
 intro p N x vs α S D H Q h U O dp z a
 match N,z,a with
 |[],_,a=>exact a.elim
 |[.val _],_,a=>exact a.elim
 |.new _::_,_,a=>exact a.elim
 |.val _::_::_::_,_,a=>exact a.elim
 |[.val k,r],z,a=>
  cases z with
  |cons dk n1 l1=>
   cases l1 with
   |cons d n2 l2=>
    cases l2;refine(cT U O d).i λY Z α' e' A L i C=>?_;have a:Post X.g W h D ((kE r S).bind λy P=>zAC p k y P) Q:=a;rw[e']at a;have a:Post X.g W h D (zAC p k Y Z) Q:=a;unfold zAC at a;split at a
    .rename_i l j E;split at a
     .rename_i G
      have v:DenX X.K α' H p x:=by
       cases p with
       |val m=>exact Den.ex0 L dp
       |new ds=>cases E
      refine(BS G.1).b λM B I h3=>?_;refine(sS i E v).l λc xs V J hS b s=>?_;subst V;have e:=Den.ex0 L dk.1;obtain⟨F,rfl⟩:=GT h3 e;refine⟨α',j,xs,F,c,k,M,_,rfl,rfl,b,s,B,I,e,?_,λd2 v2 q g2=>?_,λq u T=>?_⟩
      .rw[s.length];exact ç G.2 (fits (à _))
      .rw[q]at a;exact(Post.shift A a).val i g2
      .rw[q]at a;have n:=i.writex J b.nf (o:=DN X.prog X.w c (storedH xs M F u));exact(Post.shift (A.trans n) a).val (i.write J b.nf (.inr (Z3 _ zO ((PJ s B I e C T).ex0 n.toEx0)))) (C.ext n)
     .exact a.elim
    .exact a.elim
def zAE(hu:↑20)(j:zI X W o f)(G:↑59)
  (hbase:attributeBase o "setdefault" X.env (eval o X.env)=eval o X.env:=by rfl)
  (hfew:((backTo pos ↑38).all (λx=>!x.1)&&(backToKw pos ↑48).all (λx=>x.1.isSome)
   &&decide ↑3)=true:=by rfl)
  (hline:↑29=true:=by rfl) (hs:q8 X e es:=by rfl) (hplain:q9 X pos es:=by rfl):
  zI X W (.Call (.Attribute o "setdefault" apos) (e::es) [] pos) (λB S=>(f B S).bind λp L=>if sW p L=true then(af B L).bind λrs S2=>N3 p rs S2 else .no):=by
 refine j.a λto j fo=>?_;refine G.a λt G k=>?_;refine Z3 _ (IR sV PySem.F.plainAttrs_dict PySem.F.slot_dict_setdefault PySem.F.type_dict_setdefault ((show Gb X "dict.setdefault" (rSD X) by
   intro pins s σ H x vs v us Q I rx rv h;rw[31];obtain⟨α,i,xs,a,d,k,nk,y,rfl,rfl,n,l,hk,e,G,J,C,Y⟩:=h;refine(vals2 rv).c λu1 u2 ac r1 r2=>?_;subst ac;subst rx;subst r1;refine(qE I n l).e λhm Z hs=>?_;have hT:=(sV pins s σ H (.ref d) _ I rfl (YS d xs rfl n)).1;have D:=look_at l hk;refine bw ?_;refine ë PySem.F.slot_dict_setdefault hT PySem.F.entry_dict_setdefault ?_ (PySem.F.args_dict_setdefault_3 _ _ _);refine wB ?_;refine wB (ę hT ?_);refine wP ?_;rw[21];refine qq (iN (by rw[hs];exact xF0)) ?_;refine wB (Dm (knd:=yC X.prog X.w) (show X.A.units+1+4<cLine by lia) ⟨EB I hk G rfl,e⟩ hm (λp hp=>?_) (λhn h' O T=>?_) Z)
   .refine V0 λbx=>?_;rw[hp]at D;obtain⟨d',E⟩:=î.mp D.symm;refine(QA l hk E).g λa2 u3 v3 g=>g.e λg1 g2 g3=>?_;rw[hp]at g1;refine bx ?_;cases g1;exact wP ⟨_,rfl,v3,H,I.kept (λ_ _ z=>z),g3,C d' v3 E g2⟩
   .refine V0 λbz=>?_;rw[hn]at D
    have ab:look i k=none:=by
     cases z:look i k with
     |none=>rfl
     |some _=>rw[z]at D;cases D
    have mu:Uz (H d):=by rcases n with z|⟨_,z⟩<;>refine qq z ?_<;>exact trivial
    refine O.g λN es ep V=>V.f λj hc hd he _ P=>?_;refine bz ?_;refine wP ⟨_,rfl,y,_,I.write mu (.inl rfl) (λb uo hb eo=>(T.2 b hb).trans eo) ⟨N,j⟩ ?_,r2,Y ab u2 r2⟩;refine⟨⟨by have:=AH (xs:=xs) (k:=nk) (a:=a) (u:=u2);lia,hs,N,es,ep,j,hc,hd,he,P⟩,⟨N,j⟩,?_⟩;rintro h1 h2 ⟨z1,z2,o',M,aa,U,r⟩ mv;exact⟨z1,z2,o',M,aa,mv o' U,r⟩)) j G hbase hfew hline hs hplain) (λα B S σ H Q wd sl q=>fo α B S σ H _ wd sl (q.bind λu p L m H1 e1 x1 w1 d1 C=>?_));split at C
 .rename_i J;obtain⟨⟨l,i⟩,J⟩:=î.mp J;refine(sS w1 J d1.1).l λc xs ad _ _ n _=>?_;subst ad;exact⟨(YS c xs rfl n),k m B L σ H1 _ w1 (sl.ext x1) ((C.shift x1).bind λvs rs S2 K H2 e2 x2 w2 d2 Y=>zAD p rs _ vs K S2 H1 H2 Q m w2 x2 (d1.1.ext x2) d2 Y)⟩
 .exact C.elim
end
def VAt(d:Addr)(us:A0)(a:Nat)(h:Heap):Prop:= ∃o es,h.get? d=some o/\o.ExactDict/\o.data=.dict es a/\es.toList.map (·.val)=us
def VAt.at(x:VAt d us ep h)(m: ∀o,h.get? d=some o->h'.get? d=some o):VAt d us ep h':=let ⟨o,es,a,r⟩:=x;(YS o es (m o a) r)
theorem VAt.size(x:VAt d us ep h): ∃o es,h.get? d=some o/\o.ExactDict/\o.data=.dict es ep/\es.size=↑66/\ ∀i (hi:i<es.size),us[i]? =some es[i].val:=by refine x.k λo es c b a e=>?_;refine XD o es c b a (by rw[<-e,lM,ï]) (λi hi=>?_);rw[<-e,ó,ð,Ċ hi];rfl
section
variable{E:VP}{s:œ}
def Iq(a:s.heap.IsValIter it d i ↑66 ep)(hm:VAt d us ep s.heap)(p:us[i]? =some x)
  (hQ: ∀h',h'.IsValIter it d (i+1) ↑66 ep->Heap.SameBut it s.heap h'->Q (some x) {s with heap:=h'}):wpAny (model P w) A (pyNext (.ref it)) Q E s:=by
 refine(id a).b λo n u m=>?_;refine hm.size.l λv es k r e h j=>?_;have c:i<es.size:=by rw[h];exact((gS.mp p).1)
 refine wB (Ć (í a.typeIs PySem.F.slot_dict_valueiterator_next (ë PySem.F.slot_dict_valueiterator_next a.typeIs PySem.F.entry_dict_valueiterator_next ?_ (PySem.F.args_dict_valueiterator_next_1 _))));refine wB (wP (wB (wB ?_)))
 first |refine wB (į a.typeIs (wP ?_))|refine wB _
 refine wB (wpAny_fieldsOf n m ?_);have q:Builtin.Dict_items.ownsTuple "dict_valueiterator"=false:=by decide
 rw[21];refine wB (wP (wB (ď k e ?_)));refine qq (iN (by rw[h];simp)) ?_;refine wB (wP (wB (ģ k e ?_)));refine qq (iN (by simp)) ?_;refine wP ?_;simp only[show¬(_<0)from by lia,Ĉ,Ċ c];refine wB ?_
 first |refine wB (į a.typeIs (wP ?_))|refine wB _
 refine wB (wpAny_isOneOf_valiter a.typeIs ?_);show wpAny _ _ (setField _ 1 _ >>= _) _ _ s;refine wB (Ń n m (by simp) ?_)
 have b:(s.heap.update it (Obj.mapFields (·.setIfInBounds 1 (rawInt ((i:Int)+1))))).IsValIter it d (i+1) ↑66 ep:=
  (ZB _ (ķ _ n (Obj.isFreed_of_fields (Ķ m _))) ((Obj.cls_mapFields ..).trans u) (by rw[Ķ m];simp[rawInt]))
 refine wB (ù ?_);refine wB (wpAny_isOneOf_valiter b.typeIs ?_);refine wB (wpAny_isOneOf_valiter b.typeIs ?_);rw[25];exact wP (wP (Z3 _ rfl (wP ((by have:=j i c;rw[p]at this;exact(ä this).symm)▸hQ _ b (č ..)))))
def Dp(hh:↑70)(I)(hne:d≠I)(us)(ep):Walks P w A I [I,d] [I] ↑66 (λi x=>us[i]? =some x) (λi h=>h.IsValIter I d i ↑66 ep/\VAt d us ep h) where
 sub:=λb hb=>by simp at hb;simp[hb]
 frame:=λ_ _ _ st hk=>⟨st.1.at λo e=>hk I (by simp) o e,st.2.at λo e=>hk d (by simp) o e⟩
 item:=λi s Q E hi st hQ=>by have hx:us[i]? =some us[i]:=gE hi;refine Iq st.1 st.2 hx λh' hit' hs'=>?_;exact hQ _ h' s.toks hx ⟨hit',st.2.at λo e=>hs'.extBut d o hne e⟩ λb o hb e=>hs'.extBut b o (λh=>hb (by simp[h])) e
 done:=λs Q E st hQ=>(by
   refine(id (st.1)).b λo ho hc hd=>?_;refine((st.2).size).l λod es hod hcd hdd hsz hval=>?_;refine wB (Ć (í (st.1).typeIs PySem.F.slot_dict_valueiterator_next (ë PySem.F.slot_dict_valueiterator_next (st.1).typeIs PySem.F.entry_dict_valueiterator_next ?_ (PySem.F.args_dict_valueiterator_next_1 _))));refine wB (wP (wB (wB ?_)))
   first |refine wB (į (st.1).typeIs (wP ?_))|refine wB _
   refine wB (wpAny_fieldsOf ho hd ?_);have hown:Builtin.Dict_items.ownsTuple "dict_valueiterator"=false:=by decide
   rw[21];refine wB (wP (wB (ď hod hdd ?_)));refine qq (iN (by rw[hsz];simp)) ?_;refine wB (wP (wB (ģ hod hdd ?_)));refine qq (iN (by simp)) ?_;refine wP ?_;simp only[show¬(_<0)from by lia,Ĉ,Ĵ (by rw[hsz];exact (à _))];refine wB ?_
   first |refine wB (į (st.1).typeIs (wP ?_))|refine wB _
   show wpAny _ _ (setField _ 0 .none >>= _) _ _ s;refine wB (Ń ho hd (by simp) ?_);show wpAny _ _ _ _ _ _;refine wB ?_;refine wB (ü ?_ (by size_fits));refine wB (wpAny_of_eq (by first |rfl|(simp only[firstArgMember];rfl)) ?_);refine ü ?_ (by size_fits);refine wB (wpAny_handled ?_);refine qq (show A.in1.handled=none from hh) ?_;refine wB (wP (wpAny_throw ?_));refine wB (Ě (Z3 _ (á _ rfl) rfl) ń ?_);exact wP ((λh' he'=>hQ h' s.toks λb o hb e=>he' b o (λh=>hb (by simp[h])) e) _ (((č ..).extBut.push _).push _)))
 self:=λ_ _ _ _ st hQ=>wpAny_pyIter_valiter st.1 hQ
def Iu(us)(ep):PySem.W.KdlSrc P w "dict_values" v d ↑66 (λi x=>us[i]? =some x) (λh=>h.IsValuesView v d/\VAt d us ep h) where
 type:=λ_ hm=>hm.1.typeIs
 there:=λ_ hm=>⟨let ⟨_,ho,_⟩:=hm.1;ã ho,let ⟨_,_,ho,_⟩:=hm.2;ã ho⟩
 keep:=λ_ _ hm hk=>⟨let ⟨o,ho,x⟩:=hm.1;(Z3 o (hk v (.inl rfl) o ho) x),hm.2.at λo e=>hk d (.inr rfl) o e⟩
 notList:=by decide
 notTuple:=by decide
 hint:=λ_ _ _ _ hm hq=>PySem.W.kdl_hint_values hm.1.typeIs hq
 iter:=λ_ _ hh hm=>(Z0 _ _ (λ_ _ hq=>(by
   refine(id (hm.1)).b λov hov hcv hdv=>?_;refine((hm.2).size).l λo es ho hc hdat hsz _=>?_;refine wpAny_pyIter_slot (hm.1).typeIs PySem.F.slot_dict_values_iter (ë PySem.F.slot_dict_values_iter (hm.1).typeIs PySem.F.entry_dict_values_iter ?_ (PySem.F.args_dict_values_iter_1 _));unfold Builtin.«dict_values.__iter__»;refine wB (wP (wB ?_));unfold Builtin.Dict_items.dictOf;refine wB (ò hov hdv (x:=.ref d) rfl (wP (wB ?_)));unfold Builtin.Dict_items.newIterator;refine wB (ď ho hdat (wB (ģ ho hdat ?_)));have hown:Builtin.Dict_items.ownsTuple "dict_valueiterator"=false:=by decide
   simp only[hown,fT,iF];refine ü (wP ⟨_,rfl,"dict_valueiterator",_,(Z3 _ (á _ rfl) rfl),PySem.F.slot_dict_valueiterator_next.lookup,?_⟩);simpa [rawInt,hsz]using hq)) (Dp hh _ (é (let ⟨_,_,ho,_⟩:=hm.2;ã ho)) us ep) ⟨↑26,hm.2.at λo e=>hP0 _ e⟩)
end
section
variable{X:Cx}{W:XW}{o:Expr}{apos pos pos2 p2:Pos}{id:String}{r:V->List V->Hp->VK->Prop}
def Ah(b:vA X T TY)(m:PlainAttrs T)(a:Slot T name id)(c:↑47)(hm:Gb X id r)(p:PE X o to)
  (hbase:attributeBase o name X.env (eval o X.env)=eval o X.env) (hline:↑29=true):PE X (.Call (.Attribute o name apos) [] [] pos) (λσ H Q=>to σ H λx j=>TY x j/\r x [] j Q):=by
 rw[22];refine wpAny_Call_method0_late hbase hline (wG (p pins s σ H _ I h) λv e ⟨x,j,I1,d,n,q⟩=>?_);obtain⟨i,k⟩:=b pins e σ j x v I1 d n;exact Yk T id ⟨m,a,c,i,k,Calls.callWith_builtin rfl (PySem.evalArgs_none (hm pins e σ j x [] v [] Q I1 d .nil q))⟩
noncomputable def ML(l d:Addr):HO:=.ext λh=>h.IsValuesView l d
def Dq:Gb X "dict.values" (λx vs H Q=> ∃d xs,x=.ref d/\vs=[]/\DD X H d xs/\ ∀l,H l=none->Q (.ref l) (xV H l (ML l d))):=by
 intro pins s σ H x vs v p Q I c i h;refine h.k λd xs b g a q=>?_;subst b;subst g;subst c;have:=i.zero;subst this;have hT:s.TypeIs (.ref d) "dict":=(sV pins s σ H (.ref d) (.ref d) I rfl (YS d xs rfl a)).1
 have hs:(d==sysModules)=false:=by
  rcases a with h|⟨rfl,h⟩
  .obtain⟨⟨u,hs,_⟩,_⟩:=(show ObjOk X.prog X.w H s.heap d (DN X.prog X.w d xs)from I.hok d _ h)
   exact hs
  .refine((show ObjOk X.prog X.w H s.heap d (.dK [])from I.hok d _ h)).e λ_ hs _=>?_
   exact hs
 refine ë PySem.F.slot_dict_values hT PySem.F.entry_dict_values ?_ (PySem.F.args_dict_values_1 _);refine wB ?_;unfold Builtin.Dict.noArgs;refine wB (ę hT ?_);show wpAny _ _ (pure d) _ _ s;refine wP ?_;show wpAny _ _ (Builtin.Dict.showsAll d >>= _) _ _ s;unfold Builtin.Dict.showsAll;refine qq (iN (by rw[hs];exact xF0)) ?_;rw[28];refine wB (ü (wP ⟨_,rfl,.ref ↑0,_,I.laid (o:=ML ↑0 d) (t':=s.toks) (λb o e=>hP0 _ e) (à _) ⟨↑26,⟨_,á _ rfl⟩,?_⟩,rfl,q _ ↑25⟩));rintro m n ⟨o,k,r⟩ j;exact Z3 o (j o k) r
theorem QB: ∀{kvs}{xs},DenN X.K α H kvs xs-> ∃ys,DenL X.K α H (kvs.map (·.2)) ys/\Vals ys (xs.map (·.2.2))
 |_,_,.nil=>(Z3 ([]) zZ .nil)
 |_,_,.cons hk e a d r l=>by refine(QB l).a λys j m=>?_;exact Z3 (_::ys) (zQ d j) (.cons r m)
def XI:CallR X (.type "list") (λxs H Q=> ∃l d m α kvs,xs=[.ref l]/\H l=some (ML l d)/\DD X H d m/\DenN X.K α H kvs m/\X.calm=true/\ ∀p ys,H p=none->DenL X.K α H (kvs.map (·.2)) ys->Q (.ref p) (xV H p (.lst ys))):=by
 intro pins s σ H xs T Q I r h;refine h.p λl d m α kvs g=>g.f λU k z dn G q=>?_;subst U;refine(vals1 r).a λu V F=>?_;subst V;cases F;obtain⟨hv,_⟩:=(show ObjOk X.prog X.w H s.heap l (ML l d)from I.hok l _ k)
 refine(qE I z dn).e λY B _=>?_;obtain ⟨o,es,n,C,e,O,L,_,_⟩:=Y;refine(QB dn).a λys y i=>?_;refine PySem.W.kdl_call (Iu (P:=X.prog) (w:=X.w) (v:=l) (d:=d) (m.map (·.2.2)) n) (I.ok.hd G) ⟨hv,((Ym o es C e O (by rw[L,ħ];rfl)))⟩ (by rw[lM];exact B) λh' E a S D M b=>?_
 have A:a.toList=m.map (·.2.2):=by
  refine ext_getElem? λj=>?_;by_cases N:j<a.size
  .have c:a[j]? =some a[j]:=Ċ N;rw[ð,c];exact(b.2 j _ c).symm
  .have c:(m.map (·.2.2)).length<=j:=by have:=b.1;omega
   rw[ð,Ĵ (by omega),getElem?_eq_none c]
 refine Z0 (.ref ↑0) _ (I.laid (t':=E) D (à _) (show ObjOk X.prog X.w _ h' _ (.lst ys)from⟨?_,a.toList,S,by rw[A];exact i,?_⟩)) rfl (q _ ys ↑25 y)
 .have J:=i.length;rw[lM]at J;omega
 .rw[Array.toArray_toList];exact M
def N4(p:Er)(S:Sto):R Er:=match jW S p with
 |some (_,kvs)=>.ok (.new (kvs.map (·.2))) S
 |none=>.no
def Iv(D:X.calm=true)(s:Gl X "list")(hm:X.mg "list"=none)(m:zI X W o f)
  (hbase:attributeBase o "values" X.env (eval o X.env)=eval o X.env:=by rfl) (hline:(apos.endLine==pos2.line)=true:=by rfl)
  (he1:starEach [.Call (.Attribute o "values" apos) [] [] pos2] X.env=(false,eval (.Call (.Attribute o "values" apos) [] [] pos2) X.env)::starEach [] X.env:=by rfl) (hpl1:(backTo pos (starEach [] X.env)).any (·.1)=false:=by rfl):
  zI X W (.Call (.Name "list" p2) [.Call (.Attribute o "values" apos) [] [] pos2] [] pos) (λz S=>(f z S).bind N4):=by
 refine m.a λt m k=>?_;refine Z3 _ (DT XI s hm BN (NV (Ah sV PySem.F.plainAttrs_dict PySem.F.slot_dict_values PySem.F.type_dict_values Dq m hbase hline) WG he1) ↑11 ↑11 he1 hpl1) (λα z S σ H Q A sl q=>k α z S σ H _ A sl (q.bind λu p G d I J C i r a=>?_))
 replace a:=a.shift C
 unfold N4 at a;split at a
 .rename_i l b B;refine V0 λK=>?_;refine(sS i B r.1).l λc xs g _ _ j w=>?_;subst g;refine K ?_;refine⟨⟨c,xs,rfl,j⟩,c,xs,rfl,rfl,j,λv hv=>?_⟩;have n:=i.newx (o:=ML v c) hv;refine XL v c xs d b rfl zO ?_ (w.ex0 n.toEx0) D (λp ys y E=>(a.shift n).newl (i.new (o:=ML v c) hv) y E);rcases j with h|⟨e,h⟩
  .exact .inl (by rw[zH (zN h hv)];exact h)
  .exact .inr ⟨e,by rw[zH (zN h hv)];exact h⟩
 .exact a.elim
end
end M
end L2
namespace L2
open PySem PySem.Spec PyProof.Rows
open Builtin Builtin.ObjectAttr
section
def SetAt(h h':Heap)(x:Addr)(o:Obj)(a:Str)(v:Ŕ)(c:Addr):Prop:=
 h.get? c=none/\c≠x/\h'.get? x=some {cls:=o.cls,dict:=some c,data:=o.data,slots:=o.slots}/\h'.Ns1 c (λy=>if y=a then some v else none)/\ ∀b d,b≠x->h.get? b=some d->h'.get? b=some d
end
noncomputable abbrev BIG:Nat:=10 ^ 100
section
variable{σ:St}{H:Hp}
def tJ(i:Nat):TE:=λσ H Q=> ∃n,σ[i]? =some (some (.int n))/\n.natAbs<BIG/\ ∀y:Str,Q (.str y) H
end
namespace M
structure XIn(K:U0)(M C f:Addr):Prop where
 ex: ∃nm q N bs sn sub ab col dd k0 k1 k2 k3 k5,K.lookup C=some (excClassObj nm q C N bs (.ref M::zBW) true sn sub ab col dd k0 k1 k2 k3 k5 "ValueError.__new__")/\PySem.W.nsOkIn K N=true/\PySem.W.nsIn K N "__init__"=some (some (.ref f))/\ ∀n∈qn,PySem.W.nsIn K N n=some none
 fo: ∃o,K.lookup f=some o/\o.cls=.type "function"
def XIn.cl{K:U0}(x:XIn K M C f):XCl K C (.ref M::zBW) (some (.ref f)):=by refine x.ex.y λnm q N bs o h k e m j i r p n g=>g.h λa b c d=>?_;exact⟨nm,q,N,bs,true,o,h,k,e,m,j,i,r,p,n,a,b,c,d,rfl⟩
structure DefM(K:U0)(mg:K0)(x:Str)(st:Stmt):Prop where
 ex: ∃f fd,mg x=some (.ref f)/\Fun K x x st f fd
def def_mk{K:U0}{st:Stmt}{kV:Ŕ}(a:PySem.W.nsIn K mainGlobals x=some (some (.ref g)))
  (l:K.lookup g=some ⟨oc,od,.func (PySem.W.fnOf x x (qA st) (bD st) (zP st) .none kV dc pm an cd ct),sl⟩) (c:PySem.W.codeIn K cd x=true) (k:PySem.W.keepIn K (.ref g)=true) (X:K.In h) (GG:h.Ns mainGlobals mg):DefM K mg x st:=⟨_,_,PySem.W.mg_of X GG a,Wp l c k⟩
structure Cal(P:ŕ)(w:World)(K:U0)(mg:K0)(base:Heap)(CX:Bx)(x:Str)(k:Nat)(ps:C0)(sp:Sp):Prop where
 ex: ∃fa fd,FnOk P w K mg base CX k fa fd ps sp/\mg x=some (.ref fa)/\PySem.W.keepIn K (.ref fa)=true/\Binds K fd ps []
abbrev Dr(P:Program)(w:World)(K:U0)(mg:K0)(base:Heap)(x:Str)(k n:Nat)(ps:C0)(F:↑21):Prop:=Cal P w K mg base GP x k ps (VW ⟨K,mg,P,w⟩ n F)
abbrev zAF(P:Program)(w:World)(K:U0)(mg:K0)(base:Heap)(x:Str)(k n:Nat)(ps:C0)(F:↑21):Prop:=Cal P w K mg base (CXe P w) x k ps (zCA ⟨K,mg,P,w⟩ n F)
section
variable{K:U0}{st:Stmt}
abbrev Iw(x:Str)(st:Stmt)(ps:C0):Prop:= ∀(kV b d:Value)(c:Option Addr)(a ct:Value)(us:A0),us.length=ps.length->bindArgs (PySem.W.fnOf x x (qA st) (bD st) (zP st) .none kV b d c a ct) ⟨us,[]⟩=pure (ps.zip us)
def Cal.noX(G:zAF P w K mg base x k n ps F):Dr P w K mg base x k n ps F:=let ⟨d,a,G,m,c,b⟩:=G.ex;⟨d,a,G.noX,m,c,b⟩
def C4{l:PySem.W.OpenLaw}(D:DefM K mg x st)(a:mg x=some (.ref fa))(c: ∀ kV u B  z  q ct  s  v ,BindsTo s (PySem.W.fnOf x x (qA st) (bD st) (zP st) .none kV u B z q ct) ⟨[v],[]⟩ [(p,v)])
  (h: ∀base f j,Fun K x x st f j->FnOk l.prog w K mg base GP k f j [p] (VW ⟨K,mg,l.prog,w⟩ 1 F)):
  ∃j:FuncData,(∀ s  v ,BindsTo s j ⟨[v],[]⟩ [(p,v)])/\ ∀base:Heap,K.In base->base.Ns mainGlobals mg->FnOk l.prog w K mg base GP k fa j [p] (MA K F):=by
 refine D.ex.d λf j m b=>?_;rw[a]at m;cases m;refine Z3 j ?_ (λbase _ _=>(h base fa j b).imp λvs H Q E=>Hv (g:=⟨K,mg,_,w⟩) vs H Q E);refine b.ex.v λ_ _ _ _ _ _ _ _ _ d=>d.e λi _ _=>?_;subst i;exact c _ _ _ _ _ _
end
section
variable{p pos:Pos}
def Iy(G:Dr X.prog X.w X.K X.mg X.base x k n ps F)(y:Room k X.A)(v:Gl X x)(a:↑59)(c:↑42=false:=by decide)
  (he:q8 X e es:=by rfl) (hpl:q9 X pos es:=by rfl):zI X W ↑54 (λj S=>(af j S).bind λrs u=>zE n F rs u):=
 let ⟨_,_,G,m,d,b⟩:=G.ex;(by
   refine a.a λt a s=>?_;refine Z3 _ (Mw G y v m d b .nil V3 a c he hpl) (λα j S σ H Q r sl q=>s α j S σ H _ r sl (q.bind λvs rs u h D C B o i z=>?_));rw[aN];exact LX B o i z)
end
end M
end L2
namespace L2
open PySem PySem.Spec PyProof.Rows
structure RoomH(k:Nat)(A:Around):Prop where
 dp:A.depth+3 * k+5<recursionLimit
 un:A.units+16 * k+200<cLine
def RoomH.depth(r:RoomH k A):A.depth<recursionLimit:=by have:=r.dp;lia
def RoomH.units(r:RoomH k A):A.units+64<cLine:=by have:=r.un;lia
structure FnOkH(P:ŕ)(w:World)(K:U0)(mg:K0)(base:Heap)(k:Nat)(f:Addr)(fd:FuncData)(ps:C0)(sp:Sp):Prop where
 len: ∀vs H Q E,sp vs H Q E->↑10=ps.length
 run: ∀(A:Around)(outer:List Env)(s:œ)(H:Hp)(args:Args)(us:A0)(vs:List V)(Q:VK)(E:XK),RoomH k A->HdA A H->Env0 P w K mg base A outer s H->BindsTo s fd args (ps.zip us)->Vals vs us->sp vs H Q E->
  codeAny (model P w) A (.call (.ref f) args) (CR GP outer P w H s Q E) s
namespace M
section
variable{P:ŕ}{w:World}{K:U0}{mg:K0}{base:Heap}{x:Str}{ps:C0}{k n:Nat}{F:↑21}
structure CalH(P:ŕ)(w:World)(K:U0)(mg:K0)(base:Heap)(x:Str)(k n:Nat)(ps:C0)(F:List MV->Sto->R Er):Prop where
 ex: ∃fa fd,FnOkH P w K mg base k fa fd ps (VW ⟨K,mg,P,w⟩ n F)/\mg x=some (.ref fa)/\PySem.W.keepIn K (.ref fa)=true/\Binds K fd ps []
end
noncomputable def zAG(kvs:zA2)(S:Sto):R Er:=.ok (.val (.loc ↑1)) (S++[.dic kvs])
section
variable{X:Cx}{o e:Expr}{es:Q0}
noncomputable def pM(ks:List (Key×V))(k:Key):Option V:=(ks.find? λp=>decide (p.1=k)).map (·.2)
theorem GW: ∀{ks}{vs}(r:KV ks vs) k ,(∀v,pM ks k=some v-> ∃u,valueAt vs k=some u/\RelV v u)/\(pM ks k=none->valueAt vs k=none)
 |_,_,.nil,k=>⟨λv h=>(nomatch h),λ_=>rfl⟩
 |(a,x)::ks,(b,u)::vs,.cons ⟨h1,h2⟩ l,k=>by
  subst h1;unfold pM valueAt;by_cases c:a=k
  .simp only[find?_cons,c];exact⟨λv h=>⟨u,rfl,by cases h;exact h2⟩,λh=>nomatch h⟩
  .simp only[find?_cons,c];exact(GW l k)
theorem pN: ∀{kvs}{ks}{k}{k'},DenK X.K α H kvs ks->KeyD k k'->(∀d,look kvs k=some d-> ∃v,pM ks k'=some v/\Den X.K α H d v)/\(look kvs k=none->pM ks k'=none)
 |_,_,_,_,.nil,_=>⟨λd h=>(nomatch h),λ_=>rfl⟩
 |_,_,k,k',.cons (k:=k0) (k':=k0') (v:=v0) h1 h2 l,hk=>by
  rw[look_cons];unfold pM;by_cases c:k0=k
  .subst c;have:=PY h1 hk;simp only[find?_cons,this];exact⟨λd h=>⟨v0,rfl,by cases h;exact h2⟩,λh=>nomatch h⟩
  .have hn: ¬k0'=k':=λz=>c (IO h1 (z▸hk));simp only[find?_cons,hn,iN c];exact(pN l hk)
def TyK(X:Cx)(x:V)(H:Hp):Prop:= ∃d a,x=.ref d/\DK X H d a
def EE:vA X "dict" (TyK X):=by intro pins s σ H x v I h ⟨d,k,e,i⟩;rw[20];subst e;subst h;obtain⟨_,hs,vs,m,o,es,j,c,b,_⟩:=eQ I i;refine g ?_;exact⟨⟨o,c,b.1⟩,λa e=>by cases e;exact⟨o,c,b.2.1⟩⟩
end
section
def vJ(i:Nat)(a:Rho)(S:Sto):R Er:=Nt (a[i]?) S
noncomputable def kJ(d:MV)(_:Rho)(S:Sto):R Er:=.ok (.val d) S
noncomputable def bJ(f:Rho->Sto->R α)(F:α->Sto->R β)(a:Rho)(S:Sto):R β:=(f a S).bind F
noncomputable def dJ(F:Er->Er->Sto->R Er)(f g:AX)(a:Rho)(S:Sto):R Er:=(f a S).bind λp S=>(g a S).bind λq S=>F p q S
def nJ(f:AX)(a:Rho)(S:Sto):R Er:=(f a S).bind λp S=>(gY p S).bind λk S=>.ok (.val (.bl !k)) S
def aJ(f g:AX)(a:Rho)(S:Sto):R Er:=(f a S).bind λp S=>Nv p S λS=>g a S
def oJ(f g:AX)(a:Rho)(S:Sto):R Er:=(f a S).bind λp S=>orF p S λS=>g a S
noncomputable def iJ(c:AZ)(f g:Rho->Sto->R α)(a:Rho)(S:Sto):R α:=(c a S).bind λk S=>if k=true then f a S else g a S
noncomputable def mJ(_:Rho)(S:Sto):R (Option Int):=.ok none S
noncomputable def tJ(F:Er->Option Int->Option Int->Sto->R Er)(f:AX)(g h:Rho->Sto->R (Option Int))(a:Rho)(S:Sto):R Er:=(f a S).bind λp S=>(g a S).bind λl S=>(h a S).bind λu S=>F p l u S
def lJ(k:zA2)(_:Rho)(S:Sto):R Er:=zAG k S
def zJ(_:Rho)(S:Sto):R Er:=BR S
def fJ(n:Nat)(F:↑21)(a:↑43)(b:Rho)(S:Sto):R Er:=(a b S).bind λr S=>zE n F r S
def xJ(n:Nat)(F:↑21)(a:↑43)(b:Rho)(S:Sto):R Er:=(a b S).bind λr S=>ZP n F r S
def hJ(F:↑21)(_:Rho)(S:Sto):R Er:=zE 0 F [] S
noncomputable def eJ(t:Er->Sto->Bool)(F:Er->List Er->Sto->R Er)(f:AX)(a:↑43)(b:Rho)(S:Sto):R Er:=(f b S).bind λp S=>if t p S=true then(a b S).bind λr S=>F p r S else .no
noncomputable def gJ(t:Er->Sto->Bool)(F:Er->List Er->Sto->R Er)(f:AX)(a:Rho)(S:Sto):R Er:=(f a S).bind λp S=>if t p S=true then F p [] S else .no
noncomputable def uJ(_:Rho)(S:Sto):R Bool:=.ok true S
def pJ(i:Rho->Sto->R Wk)(g:↑24)(c:AZ)(e:AX)(n:Nat)(I:Db)(a:Rho)(S:Sto):R Er:=(i a S).bind λk S=>if k.ds.length<1000000 then(yD g c e (vH n I a) k.gs k.ds S).bind λo S=>.ok (.new o) S else .no
def jJ(F G:Er->Er->Sto->R Er)(f g h:AX)(a:Rho)(S:Sto):R Er:=(f a S).bind λp S=>(g a S).bind λq S=>Fc F G p q S λS=>h a S
noncomputable def qJ(f:AZ)(a:Rho)(S:Sto):R Bool:=(f a S).bind λk S=>.ok (!k) S
noncomputable def rJ(f g:AZ)(a:Rho)(S:Sto):R Bool:=(f a S).bind λk S=>if k=true then g a S else .ok false S
noncomputable def sJ(f g:AZ)(a:Rho)(S:Sto):R Bool:=(f a S).bind λk S=>if k=true then .ok true S else g a S
noncomputable def wJ(_:Rho)(S:Sto):R (List Er):=.ok [] S
noncomputable def yJ(f:AX)(g:↑43)(a:Rho)(S:Sto):R (List Er):=(f a S).bind λp S=>(g a S).bind λl S=>.ok (p::l) S
noncomputable def AJ(f:AX)(a:Rho)(S:Sto):R Fl:=(f a S).bind λr S=>.ok (.ret r) S
noncomputable def BJ(f:AX)(a:Rho)(S:Sto):R Fl:=(f a S).bind λ_ S=>.ok (.next a) S
def CJ(f:AX)(i:Nat)(a:Rho)(S:Sto):R Fl:=(f a S).bind (HW a i)
noncomputable def DJ(F:Er->Er->MV->Rho->Sto->R Rho)(f g:AX)(d:MV)(a:Rho)(S:Sto):R Rho:=(f a S).bind λp S=>(g a S).bind λq S=>F p q d a S
def EJ(f:AX)(g:↑24)(a:Rho)(S:Sto):R Fl:=(f a S).bind (Oe g a)
def FJ(i:Rho->Sto->R Wk)(g:↑24)(b:AY)(a:Rho)(S:Sto):R Fl:=(i a S).bind λk S=>yZ g b k.gs k.ds a S
noncomputable def GJ(a:↑43)(c:Str)(b:Rho)(S:Sto):R Fl:=(a b S).bind λr S=>if r.length<=10 then .exc c [] S else .no
def HJ(cs:C0)(i:Nat)(h:AY)(n:Nat)(F:↑21)(a:↑43)(b:Rho)(S:Sto):R Fl:=(noX (a b S)).bind λr S=>Zn cs i (λ_ S=>.ok (.next b) S) h b (ZP n F r S)
def IJ(cs:C0)(i j:Nat)(h:AY)(n:Nat)(F:↑21)(a:↑43)(b:Rho)(S:Sto):R Fl:=(noX (a b S)).bind λr S=>Zn cs i (HW b j) h b (ZP n F r S)
noncomputable def JJ(a:Rho)(S:Sto):R Fl:=.ok (.next a) S
end
section
variable{p:Pos}
def augF(F:Er->Er->Sto->R Er)(i:Nat)(f:AX)(a:Rho)(S:Sto):R Fl:=(Nt (a[i]?) S).bind λp b=>(f a b).bind λq c=>(F p q c).bind (HW a i)
end
def KJ(n:Nat)(F:↑21)(a:↑43)(b:Rho)(S:Sto):R Er:=(noX (a b S)).bind λr S=>ZP n F r S
def LJ(c:AZ)(f g:AX)(a:Rho)(S:Sto):R Er:=(noX (c a S)).bind λk S=>if k=true then f a S else g a S
def MJ(cs:C0)(i:Nat)(h:AY)(f:AX)(a:Rho)(S:Sto):R Fl:=Zn cs i (λ_ S=>.ok (.next a) S) h a (f a S)
end M
end L2
namespace L2
open PySem PySem.Spec PyProof.Rows
namespace M
structure OC(K:U0)(c:Str)(C:Addr):Prop where
 ns:PySem.W.nsIn K mainGlobals c=some (some (.ref C))
 nm:(PySem.W.clsIn K C).map (·.name)=some c
 cl:Cls K C
section
variable{p:Pos}
noncomputable def selM(m:Str)(l:List (Str×↑21)):Er->Option ↑21
 |.val (.obj c ns _)=>if m∈ns then none else l.lookup c
 |_=>none
def NJ(m:Str)(n:Nat)(l:List (Str×(List MV->Sto->R Er)))(f:AX)(b:Rho->Sto->R (List Er))(a:Rho)(S:Sto):R Er:=(f a S).bind λp S=>match selM m l p with
 |some F=>(b a S).bind λr S=>zE n F (p::r) S
 |none=>.no
end
section
variable{X:Cx}{a o i e:Expr}{α:B9}{H:Hp}{σ:St}
def C5:MV->Option Key
 |.int i=>some (.inl i)
 |.str x=>some (.inr (bC x))
 |_=>none
def XJ: ∀{k}{k'},C5 k=some k'->KeyD k k'
 |.int i,_,h=>by cases h;exact rfl
 |.str x,_,h=>by cases h;exact rfl
 |.non,_,h=>nomatch h
 |.bl _,_,h=>nomatch h
 |.tup _,_,h=>nomatch h
 |.scr _,_,h=>nomatch h
 |.loc _,_,h=>nomatch h
 |.typ _,_,h=>nomatch h
 |.obj _ _ _,_,h=>nomatch h
def XM: ∀{k}{k'}{v},C5 k=some k'->Den X.K α H k v->v=kV k'
 |.int i,_,_,h,d=>by cases h;exact xR d
 |.str x,_,_,h,d=>by cases h;exact xE d
 |.non,_,_,h,_=>nomatch h
 |.bl _,_,_,h,_=>nomatch h
 |.tup _,_,_,h,_=>nomatch h
 |.scr _,_,_,h,_=>nomatch h
 |.loc _,_,_,h,_=>nomatch h
 |.typ _,_,_,h,_=>nomatch h
 |.obj _ _ _,_,_,h,_=>nomatch h
def TU: ∀{k}{u},RelV (kV k) u->(wO X.prog X.w).is k u=true
 |.inl i,_,h=>by obtain⟨t,rfl⟩:=(h: ∃t,_=_);exact FB _ _ i t
 |.inr x,_,h=>by obtain⟨t,rfl⟩:=(h: ∃t,_=_);exact sC _ _ x t
def vB(k:MV):Bool:=(C5 k).isSome
def zAH(ob:ObD X.g α H d (.dic kvs))(c:kvs.all (λp=>vB p.1)=true): ∃ks,DK X H d ks/\DenK X.K α H kvs ks:=by
 rcases ob with⟨ks,h,l⟩|⟨xs,h,l⟩
 .exact(Z3 ks (.inl h) l)
 .cases l with
  |nil=>exact Z3 ([]) (.inr ⟨rfl,h⟩) .nil
  |@cons k nk a d v u fs xs hn e ha hd r l=>
   rw[List.all_cons,aE]at c;obtain⟨i,b⟩:=î.mp c.1;have:=XM b ha;cases i<;>cases this
def CB(S:Sto):Er->Option (Nat×List (MV×MV))
 |.val (.loc l)=>match S[l]? with
  |some (.dic kvs)=>if kvs.all (λp=>vB p.1)=true then some (l,kvs)else none
  |_=>none
 |_=>none
def Iz(j:↑27)(e:CB S r=some (l,kvs))(d:DenX X.K α H r x):
  ∃c ks,x=.ref c/\α[l]? =some c/\S[l]? =some (.dic kvs)/\DK X H c ks/\DenK X.K α H kvs ks/\kvs.all (λp=>vB p.1)=true:=by
 unfold CB at e;split at e
 .rename_i n;refine(iA d).a λc k h=>?_;subst k;split at e
  .rename_i ks b;split at e
   .rename_i a;obtain⟨rfl,rfl⟩:=Prod.mk.inj (ä e);refine(zAH (j.obj _ c _ h b) a).a λxs i l=>?_;exact Yk c xs ⟨rfl,h,b,i,l,a⟩
   .cases e
  .cases e
 .cases e
def XN(a:DK X H d ks):Uz (H d):=by rcases a with z|⟨_,z⟩<;>rw[z]<;>exact trivial
def zAI(X:Cx):TSet:=λo i v H Q=> ∃(ks:List (Key×V))(d:Addr)(k:Key),o=.ref d/\i=kV k/\DK X H d ks/\ks.length<sizeLine/\Q (xV H d (.dK (sU ks k v)))
def CC(p q:Er)(d:MV)(a:Rho)(S:Sto):R Rho:=match q with
 |.val k=>match CB S p with
  |some (l,kvs)=>if vB k=true/\kvs.length<1000000 then .ok a (S.set l (.dic (putK kvs k d)))else .no
  |none=>.no
 |_=>.no
def Qr(J:zI X W o f)(hi:zI X W i g)
  (ha: ∀v,assign (.Subscript o i pos) X.env v=(do
   let B <-holding [v] (eval o X.env);let G <-holding [v,B] (eval i X.env)
   standAt pos
   holding [v,B,G] (setItem B G v)
   release [v,B,G] []):=by intro _;rfl):Cj X W (.Subscript o i pos) (λd m S=>(f m S).bind λp N=>(g m N).bind λq S2=>CC p q d m S2):=by
 refine J.a λto J Y=>?_;refine hi.a λti hi fi=>?_;refine(Z3 _ (VZ J hi (show Mo X (zAI X) by
   intro pins s σ H o i v B G u Q I ro ri rv h;refine h.i λC d k ac ad j hz q=>?_;subst ac;subst ad;cases ro;obtain⟨z,hd,vs,w,dm⟩:=eQ I j;have hl:=Paired.length w;have hp:=CA C k v;refine wpAny_setItem_pairs (TU ri) dm λh' n K=>(Z3 _ ?_ q)
   exact I.write (XN j) (.inl rfl) (λb uo hb eo=>(K.2 b hb).trans eo) (let ⟨q,_,_,hq,_⟩:=n;⟨q,hq⟩) ⟨by lia,hd,_,XF w _ rv,n⟩) ha) (λα m S σ H d v Q wd sl de q=>Y α m S σ H _ wd sl (q.bind λu p N E H1 e1 y w1 d1 q1=>fi E m N σ H1 _ w1 (sl.ext y) ((q1.shift y).bind λu2 p2 S2 D H2 e2 A F d2 a=>?_))))
 replace a:=a.shift A
 unfold CC at a;split at a
 .rename_i k;split at a
  .rename_i l Z e;split at a
   .rename_i U;refine(Iz F e (DenX.ext A d1.1)).m λc C V=>V.f λap P hS j T M=>?_;subst ap;obtain⟨O,r⟩:=î.mp U.1;refine XV C c O rfl (XM r d2.1) j ?_ ?_
    .rw[↑37];exact ç U.2 (fits (à _))
    .have L:=F.writex P j.nf (o:=.dK (sU C O v));exact a σ D _ L (F.write P j.nf (.inl ⟨_,zO,(IQ T (XJ r) ((de.ext y).ext A)).ex0 L.toEx0⟩)) (((sl.ext y).ext A).ext L)
   .exact a.elim
  .exact a.elim
 .exact a.elim
end
def KW(p:Er)(S:Sto):Bool:=(CB S p).isSome
section
variable{α:B9}
def EF:List Er->Sto->R Er
 |[r],S=>match CB S r with |some (_,kvs)=>.ok (.new (kvs.map (·.1))) S|none=>.no
 |_,_=>.no
def Ja(j:X.calm=true):pF X W ↑72 EF:=by
 intro s vs α S H Q b d a;unfold EF at a;split at a
 .split at a
  .rename_i n i e;refine(rS d).a λv u m=>?_;subst u;refine(Iz b e m).m λc ks g=>g.f λz2z2 q r k o _=>?_;subst v;exact Ym c ks rfl k j (λl h=>Post.newl a b h (MG o))
  .exact a.elim
 .exact a.elim
end
def shrC(i j:Int):Prop:=0<=j
instance(i j:Int):Decidable (shrC i j):=inferInstanceAs (Decidable (_<=_))
end M
end L2
namespace PySem
def getAttr?_miss_list
  (q:s.heap.get? a=some o) (r:o.cls=.type "list") (i:o.data=.seq xs k) (v:o.dict=none) (j:typeLookup (.type "list") name=pure none) (m:(["__module__","__name__","__qualname__","__doc__","__annotations__"]:C0).contains name=false) (C:↑70)
  (h: ∀h' u,↑36->Q none {s with heap:=h',toks:=u}) (hsz:name.length+100<=sizeLine:=by size_fits):
  wpAny ↑6 A (getAttr? (.ref a) name) Q E s:=by
 obtain⟨c,D,z,sl⟩:=o;simp only at r i v;subst r i v;obtain⟨B,g,d,u,y⟩:=s;have hT: ∀p,(⟨B,g,d,p,y⟩:œ).TypeIs (.ref a) "list":=λ_=>(Z3 _ q rfl)
 have L:=sub_AttributeError;have K:=F.slot_list_getattribute.lookup;have H:=F.slot_list_getattribute.bind (.ref a);have J:=am_list_getattr_none;unfold getAttr? getAttrBy? getAttrBy
 repeat (any_goals (first |assumption|exact hT _|((with_reducible show wpAny _ _ (call _ _ _) _ _ _);refine call_meets F.slot_list_getattribute (hT _) am_entry_list_getattribute (F.args_list_getattribute_2 _ _) (meets_getattribute_miss_list a xs k sl name _ j m hsz) ⟨q,C,λh' p e n=>?_⟩)|wp_step))
 refine n.there.m λG I M=>?_;rw[25];unfold getattributeRaised
 rw[26]
 exact h _ _ n.keeps
namespace F
def entry_dict_update_loop:entryFor table "dict.update.loop"=some Builtin.«dict.update.loop»:=entryFor_of_tree (by kernel_rfl)
def plain_dict_update_loop:plainId "dict.update.loop"=true:=by decide+kernel
end F
open PyProof.Rows
end PySem
namespace L2
namespace M
open PySem PySem.Spec PyProof.Rows
section
variable{X:Cx}
def Ai(ps:List (Key×V)):List (Key×V):=ps.foldl (λa p=>sU a p.1 p.2) []
def Aj(r:KV ps qs): ∀{as}{bs},KV as bs->KV (ps.foldl (λj p=>sU j p.1 p.2) as) (merged bs qs):=by
 induction r with
 |nil=>intro as bs h;exact h
 |@cons p q ps qs h t ih=>
  intro as bs a;rw[ŏ];show KV _ _;rw[h.1];exact ih (XF a _ h.2)
theorem Du(ps):(Ai ps).length<=ps.length:=by
 have: ∀(ps as:List (Key×V)),(ps.foldl (λa p=>sU a p.1 p.2) as).length<=as.length+ps.length:=by
  intro ps
  induction ps with
  |nil=>intro as;exact à _
  |cons p ps ih=>
   intro as;rw[ŏ,lC];have:=ih (sU as p.1 p.2);have:=CA as p.1 p.2
   lia
 have:=this ps [];rw[ø,Ă]at this;exact this
def Tw(ps:zA2):List (MV×MV):=ps.foldl (λa p=>putK a p.1 p.2) []
theorem EG: ∀{kvs}{ps},DenK X.K α H kvs ps-> ∀{as}{bs},DenK X.K α H as bs->DenK X.K α H (kvs.foldl (λj p=>putK j p.1 p.2) as) (ps.foldl (λj p=>sU j p.1 p.2) bs)
 |_,_,.nil,as,bs,h=>h
 |_,_,.cons hk a l,as,bs,h=>by exact EG l (IQ h hk a)
def QE:bootBuiltins "dict"=some (.type "dict"):=by decide+kernel
end
section
variable{apos pos:Pos}{α:B9}{H:Hp}{σ:St}
def Ak(ks ps:List (Key×V)):List (Key×V):=ps.foldl (λa p=>sU a p.1 p.2) ks
theorem MM: ∀ ps ks ,(Ak ks ps).length<=ks.length+ps.length
 |[],ks=>à _
 |p::ps,ks=>by
  have j:=MM ps (sU ks p.1 p.2);have a:=CA ks p.1 p.2;show(Ak (sU ks p.1 p.2) ps).length<=_;rw[lC]
  lia
def Tx(X:Cx):V->List V->Hp->VK->Prop:=λx vs H Q=> ∃(ks ps:List (Key×V))(d p:Addr),x=.ref d/\vs=[.ref p]/\d≠p/\DK X H d ks/\DK X H p ps/\ks.length+ps.length<2000000/\Q .non (xV H d (.dK (Ak ks ps)))
theorem Qt:Gb X "dict.update" (Tx X):=by
 intro pins s σ H x vs v P Q I D B h;refine h.j λo ps d p g=>g.s λT U m e J N q=>?_;subst T;subst U;refine(vals1 B).a λO V w=>?_;subst V;cases D;cases w;obtain⟨z,hs,vs,n,C⟩:=eQ I e;obtain⟨L,i,j,a,c⟩:=eQ I J;have K:=Paired.length n;have G:=Paired.length a;have r:=ĝ
 refine call_meetsIn PySem.F.slot_dict_update ((EE pins s σ H (.ref d) _ I rfl (YS d o rfl e)).1) PySem.F.entry_dict_update (PySem.F.args_dict_update_2 _ _) (meets_dict_update _ d p m i)
  (Ym vs j C c (by rw[r];lia) (λh' hm _ E=>?_))
 have A:=MM ps o;refine Z0 .non (xV H d _) ?_ rfl q;exact I.write (XN e) (.inl rfl) (λb M k u=>(E.2 b k).trans u) (let ⟨q,_,_,y,_⟩:=hm;⟨q,y⟩) ⟨by rw[r];lia,hs,_,Aj a n,hm⟩
def kL(kvs ps:zA2):List (MV×MV):=ps.foldl (λa p=>putK a p.1 p.2) kvs
def IT(p:Er)(rs:List Er)(S:Sto):R Er:=match rs with
 |[r]=>match CB S p with
  |some (l,kvs)=>match CB S r with
   |some (m,ps)=>if l≠m/\kvs.length+ps.length<1000000 then .ok (.val .non) (S.set l (.dic (kL kvs ps)))else .no
   |none=>.no
  |none=>.no
 |_=>.no
theorem Qu:SK X W (Tx X) IT:=by
 intro p I x vs α S K H Q A d w G D a;unfold IT at a;split at a
 .rename_i r;split at a
  .rename_i l v B;split at a
   .rename_i m ps E;split at a
    .rename_i F
     cases D with
     |cons dv n1 l1=>
     cases l1;refine(Iz d B G).m λc u g=>g.f λO j M b q _=>?_;subst O;refine(Iz d E dv.1).m λs i N=>N.f λP C y e h _=>?_;subst P;have k:c≠s:=λz=>F.1 (by subst z;exact(List.getElem?_inj (gS.mp j).1 d.nd).mp (j.trans C.symm));have L:=DenK.length q;have J:=DenK.length h;refine YQ u i c s ⟨rfl,rfl,k,b,e,by lia,?_⟩;have n:=d.writex j b.nf (o:=.dK (Ak u i));exact(Post.shift (w.trans n) a).val (d.write j b.nf (.inl ⟨_,zO,(EG h q).ex0 n.toEx0⟩)) uF
    .exact a.elim
   .exact a.elim
  .exact a.elim
 .exact a.elim
def Qv(i:zI X W o f)(n:↑59)
  (hbase:attributeBase o "update" X.env (eval o X.env)=eval o X.env:=by rfl)
  (hfew:((backTo pos ↑38).all (λx=>!x.1)&&(backToKw pos ↑48).all (λx=>x.1.isSome)
   &&decide ↑3)=true:=by rfl)
  (hline:↑29=true:=by rfl) (hs:q8 X e es:=by rfl) (hplain:q9 X pos es:=by rfl):
  zI X W (.Call (.Attribute o "update" apos) (e::es) [] pos) (λj S=>(f j S).bind λp m=>if KW p m=true then(af j m).bind λrs S2=>IT p rs S2 else .no):=by
 refine i.a λK i z=>?_;refine n.a λt n k=>?_;refine Z3 _ (IR EE PySem.F.plainAttrs_dict PySem.F.slot_dict_update PySem.F.type_dict_update Qt i n hbase hfew hline hs hplain) (λα j S σ H Q D sl q=>z α j S σ H _ D sl (q.bind λu p m a v L w s r d=>?_));split at d
 .rename_i h;obtain⟨⟨l,A⟩,h⟩:=î.mp h;refine(Iz s h r.1).l λc xs g _ _ C _=>?_;subst g;exact⟨(YS c xs rfl C),k a j m σ v _ s (sl.ext w) ((d.shift w).bind λvs rs S2 b I J y B E G=>Qu p rs _ vs b S2 v I Q a B y (r.1.ext y) E G)⟩
 .exact d.elim
end
section
variable{K:Type}[DecidableEq K]
def TSet(knd:KeyKind prog w K)(h:Heap)(a:Addr)(S:K->Bool)(n:Nat)(b:Bool):Prop:=
 ∃o es c t,h.get? a=some o/\o.ExactSet/\o.data=.set es c t/\ElemsOf knd es.toList/\(∀k,S k=true↔ ∃e∈es.toList,knd.is k e.2=true)
  /\es.size<scanBound/\t.fits es.size=true/\es.size=n/\t.led=b/\(es.size=0\/t.plain=false)/\(es.toList.map (·.2)).Pairwise (λx y=> ∀k,knd.is k x=true-> ¬knd.is k y=true)
end
def StrT(val:Nat->Key)(i:Nat)(v:Ŕ):Prop:= ∃x t,val i=.inr x/\v=.str x t
def StrT.is(h:StrT val i v):(wO P w).is (val i) v=true/\v.scannable=true/\plainKind v=false:=by refine h.d λx t e a=>?_;subst a;rw[e];exact⟨sC P w x t,rfl,rfl⟩
def SetAt(h:Heap)(D:Addr)(es:Array (Int×Ŕ))(a:Nat)(t:SetTable):Prop:= ∃o,h.get? D=some o/\o.ExactSet/\o.data=.set es a t/\t.fits es.size=true
def SetAt.keep(x:SetAt h D es ep t)(m: ∀o,h.get? D=some o->h'.get? D=some o):SetAt h' D es ep t:=by refine x.a λo a r=>?_;exact Z3 o (m o a) r
section
theorem Jb:CallR X (.type "dict") (λxs H Q=> ∃d ks,xs=[.ref d]/\DK X H d ks/\ ∀p,H p=none->Q (.ref p) (xV H p (.dK ks))):=by intro pins s σ H xs y Q I r h;refine V0 λz=>?_;refine h.c λd ks g k q=>?_;subst g;refine(vals1 r).a λu u j=>?_;subst u;subst j;obtain⟨n,hs,vs,i,m⟩:=eQ I k;have v:=Paired.length i;refine z ?_;refine kt_call_dict hs m #[0] λh' c a=>?_;refine Z0 (.ref ↑0) _ (I.laid (λb o e=>(a.2 b (é (ã e))).trans (hP0 _ e)) (à _) (show ObjOk X.prog X.w _ h' _ (.dK ks)from⟨n,Ŋ.mpr (Ne.symm (é (PK I))),_,i,c⟩)) rfl (q _ ↑25)
def TV:List Er->Sto->R Er
 |[r],S=>match CB S r with |some (_,kvs)=>.ok (.val (.loc S.length)) (S++[.dic kvs])|none=>.no
 |_,_=>.no
def C6:pF X W (λxs H Q=> ∃d ks,xs=[.ref d]/\DK X H d ks/\ ∀p,H p=none->Q (.ref p) (xV H p (.dK ks))) TV:=by
 intro s vs α S H Q b d a;unfold TV at a;split at a
 .split at a
  .rename_i l h e;refine(rS d).a λv y q=>?_;subst y;refine(Iz b e q).m λc ks g=>g.f λz u w n r _=>?_;subst z;refine Z0 c ks rfl n (λp j=>?_);have i:=b.newx (o:=.dK ks) j;obtain⟨x,k⟩:=b.put (m:=.dic h) j (.inl ⟨_,zO,r.ex0 ⟨⟨[p],rfl⟩,i.tup,i.frz⟩⟩);exact a _ _ _ x k (DenE.val (qD (by rw[<-b.len,æ (à _),sub_self];rfl)))
  .exact a.elim
 .exact a.elim
end
section
variable{e:Expr}{apos pos:Pos}
def rGX(X:Cx):V->List V->Hp->VK->Prop:=λx vs H Q=> ∃(ks:List (Key×V))(d:Addr)(k:Key)(y:V),x=.ref d/\(vs=[kV k,y]\/(vs=[kV k]/\y=.non))/\DK X H d ks/\Q ((pM ks k).getD y) H
def Qw:Gb X "dict.get" (rGX X):=by
 intro pins s σ H x vs v O Q I J o h;refine h.j λp d k y g=>g.h λP j n q=>?_;subst P;cases J;have hT:s.TypeIs _ "dict":=(EE pins s σ H (.ref d) _ I rfl (YS d p rfl n)).1;obtain⟨_,hs,N,C,G⟩:=eQ I n;obtain⟨L,M⟩:=GW C k
 have m: ∀(A:Around)(a b:Ŕ)(K:Option Ŕ->Sem Fin),RelV (kV k) a->RelV y b->(∀v,K _=ret v)->(K none=Builtin.Dict.missed d a >>= λr=>match r with |some v=>ret v|none=>ret b)->
   wpAny _ A (dictGet d a >>= K) (λfin D=> ∃v,fin=.done (.ret v)/\EP X pins σ Q v D) (λ_ _=>False) s:=λA a b K c i w E=>by
  refine wB (wpAny_dictGet_of (TU c) G.mapOf ?_)
  cases hv:pM p k with
  |some v=>
   refine(L v hv).a λu e B=>?_;rw[hv]at q;rw[e,w];exact wP ⟨u,rfl,v,H,I.tok _,B,q⟩
  |none=>
   rw[hv]at q;rw[M hv,E];exact wB (wpAny_missed_other hs (wP ⟨b,rfl,y,H,I.tok _,i,q⟩))
 rcases j with rfl|⟨rfl,rfl⟩
 .refine(vals2 o).c λa b T c i=>?_;subst T;refine ë PySem.F.slot_dict_get hT PySem.F.entry_dict_get ?_ (PySem.F.args_dict_get_3 _ _ _);show wpAny _ _ _ _ _ s;exact û (m _ a b _ c i (λ_=>rfl) rfl) (λ_ _ z=>z) λ_ _ z=>z.elim
 .refine(vals1 o).a λa U c=>?_;subst U;refine ë PySem.F.slot_dict_get hT PySem.F.entry_dict_get ?_ (PySem.F.args_dict_get_2 _ _);show wpAny _ _ _ _ _ s;exact û (m _ a .none _ c rfl (λ_=>rfl) rfl) (λ_ _ z=>z) λ_ _ z=>z.elim
def CD(p:Er)(rs:List Er)(S:Sto):R Er:=match CB S p with
 |some (_,kvs)=>match rs with
  |[.val k,r]=>if vB k=true then(match look kvs k with |some d=>.ok (.val d) S|none=>.ok r S)else .no
  |[.val k]=>if vB k=true then .ok (.val ((look kvs k).getD .non)) S else .no
  |_=>.no
 |none=>.no
def Qx:SK X W (rGX X) CD:=by
 intro p F x vs α S G H Q B m n E z a;unfold CD at a;split at a
 .rename_i l i C;refine(Iz m C E).m λc A g=>g.f λK I J j y _=>?_;subst K;split at a
  .rename_i k r
   cases z with
   |cons dk n1 l1=>
    cases l1 with
    |cons dy n2 l2=>
     cases l2;split at a
     .rename_i h;obtain⟨u,b⟩:=î.mp h;obtain⟨q,w⟩:=pN y (XJ b);have s:=XM b dk.1;subst s;refine YQ A c u _ ⟨rfl,.inl rfl,j,?_⟩
      cases e:look i k with
      |some d=>
       refine(q d e).a λD v o=>?_;rw[e]at a;rw[v];exact(Post.shift n a).val m o
      |none=>
       rw[e]at a;rw[w e];exact a _ α H n m dy
     .exact a.elim
  .rename_i k
   cases z with
   |cons dk n1 l1=>
    cases l1;split at a
    .rename_i h;obtain⟨u,b⟩:=î.mp h;obtain⟨q,w⟩:=pN y (XJ b);have s:=XM b dk.1;subst s;refine YQ A c u .non ⟨rfl,.inr ⟨rfl,rfl⟩,j,?_⟩
     cases e:look i k with
     |some d=>
      refine(q d e).a λD v o=>?_;rw[e]at a;rw[v];exact(Post.shift n a).val m o
     |none=>
      rw[e]at a;rw[w e];exact(Post.shift n a).val m uF
    .exact a.elim
  .exact a.elim
 .exact a.elim
def Qy(i:zI X W o f)(n:↑59)
  (hbase:attributeBase o "get" X.env (eval o X.env)=eval o X.env:=by rfl)
  (hfew:((backTo pos ↑38).all (λx=>!x.1)&&(backToKw pos ↑48).all (λx=>x.1.isSome)
   &&decide ↑3)=true:=by rfl)
  (hline:↑29=true:=by rfl) (hs:q8 X e es:=by rfl) (hplain:q9 X pos es:=by rfl):
  zI X W (.Call (.Attribute o "get" apos) (e::es) [] pos) (λj S=>(f j S).bind λp m=>if KW p m=true then(af j m).bind λrs S2=>CD p rs S2 else .no):=by
 refine i.a λK i z=>?_;refine n.a λt n k=>?_;refine Z3 _ (IR EE PySem.F.plainAttrs_dict PySem.F.slot_dict_get PySem.F.type_dict_get Qw i n hbase hfew hline hs hplain) (λα j S σ H Q D sl q=>z α j S σ H _ D sl (q.bind λu p m a v L w s r d=>?_));split at d
 .rename_i h;refine V0 λM=>?_;obtain⟨⟨l,A⟩,h⟩:=î.mp h;refine(Iz s h r.1).l λc xs g _ _ C _=>?_;subst g;refine M ?_;exact⟨(YS c xs rfl C),k a j m σ v _ s (sl.ext w) ((d.shift w).bind λvs rs S2 b I J y B E G=>Qx p rs _ vs b S2 v I Q a B y (r.1.ext y) E G)⟩
 .exact d.elim
end
section
variable{apos pos:Pos}
def rSX(X:Cx):V->List V->Hp->VK->Prop:=λx vs H Q=> ∃(ks:List (Key×V))(d:Addr)(k:Key)(y:V),x=.ref d/\vs=[kV k,y]/\DK X H d ks/\ks.length<sizeLine/\(∀v,pM ks k=some v->Q v H)/\(pM ks k=none->Q y (xV H d (.dK (sU ks k y))))
theorem C7:Gb X "dict.setdefault" (rSX X):=by
 intro pins s σ H x vs v Y Q I J D h;refine h.j λc d k y g=>g.f λV Z i U B L=>?_;subst V;subst Z;refine(vals2 D).c λW K ac z p=>?_;subst ac;cases J;rw[31];have hT:=(EE pins s σ H (.ref d) _ I rfl (YS d c rfl i)).1;obtain⟨_,hs,T,j,E⟩:=eQ I i;have O:=Paired.length j;obtain⟨r,N⟩:=GW j k;have S:=CA c k y;refine bw ?_;refine ë PySem.F.slot_dict_setdefault hT PySem.F.entry_dict_setdefault ?_ (PySem.F.args_dict_setdefault_3 _ _ _);refine wB ?_;refine wB (ę hT ?_);refine wP ?_;rw[21];rw[iN (by rw[hs];exact xF0)];refine wB (kt_dictSetDefault_pairs (TU z) E (λu n=>?_) (λhn h' a m=>?_) #[0])
 .cases hv:pM c k with
  |some v=>
   refine(r v hv).a λG e C=>?_;rw[n]at e;cases e;exact wP ⟨u,rfl,v,H,I.tok _,C,B v hv⟩
  |none=>rw[N hv]at n;cases n
 .cases hv:pM c k with
  |some v=>
   refine(r v hv).a λG e _=>?_;rw[hn]at e;cases e
  |none=>
   exact wP ⟨K,rfl,y,_,I.write (o:=.dK _) (XN i) (.inl rfl) (λb P M w=>(m.2 b M).trans w) (let ⟨q,_,_,A,_⟩:=a;⟨q,A⟩) ⟨by lia,hs,_,XF j _ p,a⟩,p,L hv⟩
def TX(p:Er)(k y:MV)(a:Sto):R Er:=match CB a p with
 |some (l,kvs)=>if vB k=true/\kvs.length<1000000 then(match look kvs k with
  |some d=>.ok (.val d) a
  |none=>.ok (.val y) (a.set l (.dic (putK kvs k y))))else .no
 |none=>.no
def Jc(p:Er)(rs:List Er)(S:Sto):R Er:=match rs with
 |[.val k,r]=>(kE r S).bind λy a=>TX p k y a
 |_=>.no
def C8:SK X W (rSX X) Jc:=by
 intro p I x vs α S D H Q n M J dp u a
 match I,u,a with
 |[],_,a=>exact a.elim
 |[.val _],_,a=>exact a.elim
 |.new _::_,_,a=>exact a.elim
 |.val _::_::_::_,_,a=>exact a.elim
 |[.val k,r],u,a=>
  cases u with
  |cons dk n1 l1=>
   cases l1 with
   |cons d n2 l2=>
    cases l2;refine(cT M J d).i λN U α' e' z G i C=>?_;have a:Post X.g W n D ((kE r S).bind λy L=>TX p k y L) Q:=a;rw[e']at a;have a:Post X.g W n D (TX p k N U) Q:=a;unfold TX at a;split at a
    .rename_i l j E;split at a
     .rename_i F
      have s:DenX X.K α' H p x:=by
       cases p with
       |val m=>exact Den.ex0 G dp
       |new ds=>cases E
      refine(Iz i E s).m λc Z V=>V.f λac o hS b q _=>?_;subst ac;obtain⟨T,e⟩:=î.mp F.1;obtain⟨B,Y⟩:=pN q (XJ e);have P:=XM e (Den.ex0 G dk.1);subst P;refine YQ Z c T _ ⟨rfl,rfl,b,?_,λv hv=>?_,λhv=>?_⟩
      .rw[q.length];exact ç F.2 (fits (à _))
      .cases h:look j k with
       |some d2=>
        refine(B d2 h).a λO w A=>?_;rw[w]at hv;cases hv;rw[h]at a;exact(Post.shift z a).val i A
       |none=>rw[Y h]at hv;cases hv
      .cases h:look j k with
       |some d2=>refine(B d2 h).a λO w A=>?_;rw[w]at hv;cases hv
       |none=>
        rw[h]at a;exact(Post.shift (z.trans (i.writex o b.nf)) a).val (i.write o b.nf (.inl ⟨_,zO,(IQ q (XJ e) C).ex0 (i.writex o b.nf).toEx0⟩)) (C.ext (i.writex o b.nf))
     .exact a.elim
    .exact a.elim
def C9(i:zI X W o f)(n:↑59)
  (hbase:attributeBase o "setdefault" X.env (eval o X.env)=eval o X.env:=by rfl)
  (hfew:((backTo pos ↑38).all (λx=>!x.1)&&(backToKw pos ↑48).all (λx=>x.1.isSome)
   &&decide ↑3)=true:=by rfl)
  (hline:↑29=true:=by rfl) (hs:q8 X e es:=by rfl) (hplain:q9 X pos es:=by rfl):
  zI X W (.Call (.Attribute o "setdefault" apos) (e::es) [] pos) (λj S=>(f j S).bind λp m=>if KW p m=true then(af j m).bind λrs S2=>Jc p rs S2 else .no):=by
 refine i.a λK i z=>?_;refine n.a λt n k=>?_;refine Z3 _ (IR EE PySem.F.plainAttrs_dict PySem.F.slot_dict_setdefault PySem.F.type_dict_setdefault C7 i n hbase hfew hline hs hplain) (λα j S σ H Q D sl q=>z α j S σ H _ D sl (q.bind λu p m a v L w s r d=>?_));split at d
 .rename_i h;obtain⟨⟨l,A⟩,h⟩:=î.mp h;refine(Iz s h r.1).l λc xs g _ _ C _=>?_;subst g;exact⟨(YS c xs rfl C),k a j m σ v _ s (sl.ext w) ((d.shift w).bind λvs rs S2 b I J y B E G=>C8 p rs _ vs b S2 v I Q a B y (r.1.ext y) E G)⟩
 .exact d.elim
end
section
abbrev FL:=Mb (λ_ _=>True) λi j=>Builtin.bitAnd i j
abbrev E1:=Mb (λ_ _=>True) λi j=>Builtin.bitOr i j
def Qz(c:zI X W a f)(d:zI X W b g):zI X W (.BinOp a .BitAnd b pos) (λj S=>(f j S).bind λp m=>(g j m).bind λq S2=>FL p q S2):=FH (Mq λ_ _ _ _ _ _ _ q=>and_int q) OT c d
def E2(c:zI X W a f)(d:zI X W b g):zI X W (.BinOp a .BitOr b pos) (λj S=>(f j S).bind λp m=>(g j m).bind λq S2=>E1 p q S2):=FH (Mq λ_ _ _ _ _ _ _ q=>or_int q) OT c d
end
section
variable{KK:Type}[DecidableEq KK]{knd:HeapKind P w KK}
def Dv(q:knd.room A)(b:knd.is s.heap k a)(hm:s.heap.DictOfH knd d xs)(h:Q ((atKey xs k).map (·.2)) {s with toks:=s.toks+knd.draws k}):wpAny (model P w) A (dictGet d (.ref a)) Q E s:=by
 refine hm.g λo es u g=>g.f λr v n i e hn=>?_;unfold dictGet
 try with_reducible refine ù ?_
 refine wB (knd.pyHash q b ?_);refine wB (wpAny_dictFind_heap q b r n i e hn ?_ ?_)
 .intro c;rw[atKey_none_of_get c]at h;exact wP h
 .intro j p m;refine wB (ď r n ?_);rw[entry_at i j,m];rw[atKey_of_get hn m]at h;exact wP h
end
section
variable{apos pos:Pos}
def rGD(X:Cx):V->List V->Hp->VK->Prop:=λx vs H Q=> ∃(α:B9)(kvs:zA2)(xs:↑46)(a d:Addr)(k:MV)(nk:NK)(y:V),x=.ref d/\vs=[.ref a,y]/\DD X H d xs/\DenN X.K α H kvs xs/\yY k=some nk/\eM nk<=4/\Den X.K α H k (.ref a)/\
 (∀b v,look kvs k=some b->Den X.K α H b v->Q v H)/\(look kvs k=none->Q y H)
def CF(p:Er)(rs:List Er)(S:Sto):R Er:=match rs with
 |[.val k,r]=>match jW S p with
  |some (_,kvs)=>if keyOk k=true then(match look kvs k with
   |some d=>.ok (.val d) S
   |none=>.ok r S)else .no
  |none=>.no
 |_=>.no
def zAK:SK X W (rGD X) CF:=by
 intro p C x vs α S D H Q m h i A v a;unfold CF at a;split at a
 .rename_i k r
  cases v with
  |cons dk n1 l1=>
   cases l1 with
   |cons dy n2 l2=>
    cases l2;split at a
    .rename_i l b o;split at a
     .rename_i s;refine(BS s).b λz j u y=>?_;refine(sS h o A).l λc xs g E G e n=>?_;subst g;obtain⟨q,rfl⟩:=GT y dk.1;refine WD (α) b xs q c k z _ ⟨rfl,rfl,e,n,j,u,dk.1,λF B d w=>?_,λd=>?_⟩
      .rw[d]at a;exact(Post.shift i a).val h w
      .rw[d]at a;exact a _ α H i h dy
     .exact a.elim
    .exact a.elim
 .exact a.elim
def zAL(hu:↑20)(J:zI X W o f)(B:↑59)
  (hbase:attributeBase o "get" X.env (eval o X.env)=eval o X.env:=by rfl)
  (hfew:((backTo pos ↑38).all (λx=>!x.1)&&(backToKw pos ↑48).all (λx=>x.1.isSome)
   &&decide ↑3)=true:=by rfl)
  (hline:↑29=true:=by rfl) (hs:q8 X e es:=by rfl) (hplain:q9 X pos es:=by rfl):
  zI X W (.Call (.Attribute o "get" apos) (e::es) [] pos) (λj S=>(f j S).bind λp G=>if sW p G=true then(af j G).bind λrs S2=>CF p rs S2 else .no):=by
 refine J.a λto J fo=>?_;refine B.a λt B k=>?_;refine(Z3 _ (IR sV PySem.F.plainAttrs_dict PySem.F.slot_dict_get PySem.F.type_dict_get ((show Gb X "dict.get" (rGD X) by
   intro pins s σ H x vs v us Q I rx rv h;refine h.x λα b xs a d k nk y g=>g.r λac ad C l N e B m K=>?_;subst ac;subst ad;refine(vals2 rv).c λu1 u2 ap r1 r2=>?_;subst ap;cases rx;cases r1;refine(qE I C l).e λhm aa hs=>?_;have n:=look_at l N;refine ë PySem.F.slot_dict_get ((sV pins s σ H (.ref d) _ I rfl (YS d xs rfl C)).1) PySem.F.entry_dict_get ?_ (PySem.F.args_dict_get_3 _ _ _);show wpAny _ _ (dictGet d _ >>= _) _ _ s;refine wB (Dv (knd:=yC X.prog X.w) (show X.A.units+1+4<cLine by lia) ⟨EB I N B rfl,e⟩ hm ?_)
   cases M:atKey xs nk with
   |some p=>
    rw[M]at n;obtain⟨d',r⟩:=î.mp n.symm;refine(QA l N r).g λa2 u3 T V=>V.e λZ g2 g3=>?_;rw[M]at Z;cases Z;exact wP ⟨_,rfl,T,H,I.kept (λ_ _ z=>z),g3,m d' T r g2⟩
   |none=>
    rw[M]at n
    have L:look b k=none:=by
     cases z:look b k with
     |none=>rfl
     |some _=>rw[z]at n;cases n
    show wpAny _ _ _ _ _ _;exact wB (wpAny_missed_other hs (wP ⟨u2,rfl,y,H,I.kept (λ_ _ z=>z),r2,K L⟩)))) J B hbase hfew hline hs hplain) (λα j S σ H Q wd sl q=>fo α j S σ H _ wd sl (q.bind λu p G i H1 e1 U P O m=>?_)));split at m
 .rename_i E;obtain⟨⟨l,b⟩,E⟩:=î.mp E;refine(sS P E O.1).l λc xs be _ _ C _=>?_;subst be;exact⟨(YS c xs rfl C),k i j G σ H1 _ P (sl.ext U) ((m.shift U).bind λvs rs S2 D H2 e2 Y w2 d2 K=>zAK p rs _ vs D S2 H1 H2 Q i w2 Y (O.1.ext Y) d2 K)⟩
 .exact m.elim
end
section
variable{R:Result->œ->Prop}
def EH(x:(yC P w).is h k a)(m: ∀b o,h.get? b=some o->h'.get? b=some o):(yC P w).is h' k a:=⟨HP (λb o _ _ e _=>m b o e) x.1,x.2⟩
def Je(P:ŕ)(w:World)(h:Heap)(x:NK×Addr×Ŕ)(v:Ŕ):Prop:= ∃t,v=.ref t/\IsTup h t #[.ref x.2.1,x.2.2]/\(yC P w).is h x.1 x.2.1
def CG(xs:↑46):List (NK×Addr×Ŕ):=xs.foldl (λa x=>storedH a x.1 x.2.1 x.2.2) []
theorem MN(xs):(CG xs).length<=xs.length:=by
 have: ∀(xs b:↑46),(xs.foldl (λb x=>storedH b x.1 x.2.1 x.2.2) b).length<=b.length+xs.length:=by
  intro xs
  induction xs with
  |nil=>intro b;exact à _
  |cons x xs ih=>
   intro b;rw[ŏ,lC];have:=ih (storedH b x.1 x.2.1 x.2.2);have:=AH (xs:=b) (k:=x.1) (a:=x.2.1) (u:=x.2.2)
   lia
 have:=this xs [];rw[ø,Ă]at this;exact this
theorem XO(xs:↑46)(i)(x)(h:xs[i]? =some x):CG (xs.take (i+1))=storedH (CG (xs.take i)) x.1 x.2.1 x.2.2:=by unfold CG;rw[List.take_add_one,h,List.foldl_append];rfl
def Dw{p:NK->Addr->Prop}(h: ∀x∈xs,p x.1 x.2.1)(d:p k a): ∀x∈storedH xs k a u,p x.1 x.2.1:=by
 intro x b
 cases z:atKey xs k with
 |none=>
  rw[storedH_new z]at b;rcases ê.mp b with b|b
  .exact h x b
  .rw[mS.mp b];exact d
 |some q=>
  rw[storedH_old z]at b;refine(mM.mp b).a λy c g=>?_;subst g;unfold putAt;split
  .exact h y c
  .exact h y c
def TZ{p:NK->Addr->Prop}(h: ∀x∈xs,p x.1 x.2.1): ∀x∈CG xs,p x.1 x.2.1:=by
 have: ∀(xs a:↑46),(∀x∈xs,p x.1 x.2.1)->(∀x∈a,p x.1 x.2.1)-> ∀x∈xs.foldl (λa x=>storedH a x.1 x.2.1 x.2.2) a,p x.1 x.2.1:=by
  intro xs
  induction xs with
  |nil=>intro a _ c;exact c
  |cons y ys ih=>
   intro a b c;exact ih _ (λx d=>b x (mO _ d)) (Dw c (b y mF0))
 exact this xs [] h λx b=>by simp at b
def MP{h:Heap}(hm:h.DictOfH (yC P w) D xs)(c: ∀o,h.get? D=some o->h'.get? D=some o)(a: ∀x∈xs,(yC P w).is h' x.1 x.2.1):h'.DictOfH (yC P w) D xs:=
 let ⟨o,es,b,k,d,j,i,_,e⟩:=hm;(YR o es b ⟨c o k,d,j,i,a,e⟩)
theorem XQ{St:Nat->Heap->Prop}(W:Walks P w A.in1 I fp [I] n Pv St)(z:D∉fp)(kvs)(hn:kvs.length=n)(hz:n<=sizeLine)(u:(yC P w).room A.in1)
  (hP: ∀i v,Pv i v-> ∃O,kvs[i]? =some O/\Je P w h₀ O v) (hK: ∀x∈kvs,(yC P w).is h₀ x.1 x.2.1) (hI:h₀.get? I=none) (hD:h₀.get? D=none):
  ∀ k i  j  s ,n - i=k->i<=n->St i s.heap->s.heap.DictOfH (yC P w) D (CG (kvs.take i))->(∀b o,h₀.get? b=some o->s.heap.get? b=some o)->
   (∀h' L,(∀b o,h₀.get? b=some o->h'.get? b=some o)->h'.DictOfH (yC P w) D (CG kvs)->R (.ok (.ret .none)) {s with heap:=h',toks:=L})->
   codeAny (model P w) A (.builtin "dict.update.loop" ⟨[.ref D,.ref I,rawInt j,.none],[]⟩) R s:=by
 have G:D≠I:=λe=>z (e▸W.sub _ (mS.mpr rfl));intro k
 induction k with
 |zero=>
  intro i j s Z hi r K d hR;have S:i=n:=by lia
  subst S;refine Ģ F.entry_dict_update_loop ?_;refine wB (W.done s _ _ r λh' L p=>?_);rw[28];rw[<-hn,take_length]at K;refine wP (hR h' L (λb o e=>?_) ?_)
  .exact p b o (λh=>by rw[mS.mp h,hI]at e;cases e) (d b o e)
  .exact MP K (λo e=>p D o (λh=>G (mS.mp h)) e) λx y=>EH (TZ hK x y) λb o e=>p b o (λh=>by rw[mS.mp h,hI]at e;cases e) (d b o e)
 |succ k ih=>
  intro i j s Z hi r K d hR;have J:i<n:=by lia
  refine Ģ F.entry_dict_update_loop ?_;refine wB (W.item i s _ _ J r λv h' L M B p=>?_);obtain⟨O,N,a,rfl,hT,E⟩:=hP i v M;have c:=λb o e=>p b o (λh=>by rw[mS.mp h,hI]at e;cases e) (d b o e);have⟨o,U,hc,nn,H⟩:=hT.keeps c;refine wB (ù ?_);refine wB (wpAny_tryCatch ?_);refine wB (Ĥ ((Z3 o U hc)) ?_);refine wB ?_;rw[25];refine wB (wpAny_load U ?_);refine qq H ?_;refine wP (wP ?_);rw[25];refine ù ?_;have X:=MN (kvs.take i);have aa:(kvs.take i).length<=n:=by rw[<-hn];exact List.length_take_le' i kvs
  refine wpAny_dictSet_heap u (EH E c) (MP K (λo e=>p D o (λh=>G (mS.mp h)) e) λx y=>EH (TZ ((λm x y=>hK x (mem_of_mem_take y)) i) x y) c) λh2 Q C=>?_;have q: ∀b o,h₀.get? b=some o->h2.get? b=some o:=λb o e=>by rw[C.2 b (λh=>by rw[h,hD]at e;cases e)];exact c b o e
  refine wP ⟨Ŏ F.plain_dict_update_loop _,ih _ _ _ #[0] J (W.frame _ _ _ B λb hb o e=>?_) ?_ q λh3 T k3 Y=>hR h3 T k3 Y⟩
  .rw[C.2 b (λh=>z (h▸hb))];exact e
  .rw[XO _ _ _ N];exact Q
theorem EI(W:A.units+64<cLine)(D:↑70)(H:s.heap.get? l=some o)(z:o.cls=.type "list")(U:o.dict=none)(d:o.data=.seq its c)(q:its.size=kvs.length)(hz:its.size<=sizeLine)
  (hP: ∀(i:Nat) v,its[i]? =some v-> ∃I,kvs[i]? =some I/\Je P w s.heap I v) (hK: ∀x∈kvs,(yC P w).is s.heap x.1 x.2.1)
  (h: ∀h' B,↑36->h'.DictOfH (yC P w) ↑0 (CG kvs)->Q (.ref ↑0) {s with heap:=h',toks:=B}):
  wpAny (model P w) A (call (.type "dict") [.ref l]) Q E s:=by
 refine callType_codes (Q₁:=λu j=>u=.ref ↑0/\j={s with heap:=s.heap.push {cls:=.type "dict",data:=.dict #[]}}) F.kt_called_dict (F.kt_typeCall_dict_1 _) F.entry_dict_init (kt_code_dict_new _ ⟨rfl,rfl⟩) ?_;rintro u j ⟨rfl,rfl⟩;have a:(s.heap.push {cls:=.type "dict",data:=.dict #[]}).DictOfH (yC P w) ↑0 []:=Heap.DictOfH.new s.heap;have m:(s.heap.push {cls:=.type "dict",data:=.dict #[]}).get? l=some o:=hP0 _ H;refine⟨a.typeIs,F.args_dict_init_2 _ _,?_⟩;refine wB ?_;refine wB (ę a.typeIs ?_);refine wP ?_;show wpAny _ _ (Builtin.Dict.updateFrom "dict.__init__" ↑0 _ [] .none) _ _ _;refine wB (Ĥ (Z3 o m z) ?_);refine wB (getAttr?_miss_list m z d U (am_miss_of_fast ↑50) ↑50 D (λC N y=>?_) ↑50);refine wB (Ğ ?_);have k:=y l o m;refine wB (ļ ⟨o,k,z,c,d⟩ ?_);have p:↑0<C.objs.size:=by refine a.g λr _ _ g=>g.elim λn _=>?_;exact ã (y _ _ n)
 refine wP ⟨Ŏ F.plain_dict_update_loop _,XQ (Walks.list (by first |exact D|exact D) C.objs.size l (é (ã k)) its) ?_ kvs q.symm hz (by show _+4<cLine;first |(show A.units+1+1+4<cLine;lia)|(show A.units+1+4<cLine;lia)|(show A.units+4<cLine;lia)) hP hK ?_ ?_ _ 0 0 _ rfl (zero_le _) ⟨↑26,⟨o,hP0 _ k,z,c,d⟩⟩ ?_ ?_ λh' B L G=>?_⟩
 .rw[mC,mS];rintro(e|e)
  .exact é p e
  .exact é (ã H) e.symm
 .cases n:s.heap.get? C.objs.size with
  |none=>rfl
  |some r=>exact absurd (ã n) (Nat.lt_asymm p)
 .cases n:s.heap.get? ↑0 with
  |none=>rfl
  |some r=>exact absurd (ã n) (ĵ _)
 .refine a.g λr es J V=>V.f λn M O T _ S=>?_;exact YR r es J ⟨hP0 _ (y _ _ n),M,O,T,λx K=>(by cases K),S⟩
 .intro b r e;exact hP0 _ (y _ _ (hP0 _ e))
 .exact⟨rfl,h h' B L G⟩
end
section
variable{X:Cx}
noncomputable def iG:List MV->Option (List (MV×MV))
 |[]=>some []
 |.tup [k,v]::r=>if keyOk k=true then(iG r).map ((k,v)::·)else none
 |_::_=>none
def Al(ps:zA2):List (MV×MV):=ps.foldl (λa p=>putK a p.1 p.2) []
theorem MQ(I:↑2): ∀{ds}{kvs}{vs}{us},iG ds=some kvs->DenL X.K α H ds vs->Vals vs us->
  ∃xs,DenN X.K α H kvs xs/\↑8=↑66/\ ∀(i:Nat) v,us[i]? =some v-> ∃x,xs[i]? =some x/\Je X.prog X.w s.heap x v
 |[],kvs,vs,us,e,l,r=>by cases e;have:=l.isnil;subst this;cases r;exact ZB ([]) .nil rfl (λi v h=>by simp at h)
 |d::ds,kvs,vs,us,e,l,r=>by
  refine l.uncons.c λv Y g L p=>?_;subst g;unfold iG at e;split at e
  .cases (by assumption:d::ds=[])
  .rename_i k y T N;obtain⟨rfl,rfl⟩:=List.cons.inj N;split at e
   .rename_i C
    cases z:iG ds with
    |none=>rw[z]at e;cases e
    |some ms=>
     rw[z]at e;cases e
     cases r with
     |@cons _ u _ us ru rt=>
      rw[31];refine(MQ I z p rt).b λxs n D O=>?_;refine(yQ L).c λt U F hs m=>?_;subst F;refine m.uncons.c λZ Q V b M=>?_;subst V;refine M.uncons.c λS r2 Z G P=>?_;subst Z;have B:=P.isnil;subst B;subst ru;refine(BS C).b λnk c j A=>?_;obtain⟨a,rfl⟩:=GT A b;refine(I.tuple hs).b λF E q W=>?_;refine(vals2 E).c λu1 u2 ac o J=>?_;subst ac;subst o;refine bw ?_;refine ZB (_::xs) (.cons c j b G J n) (by exact qq lC (qq lC (qq D rfl))) (λi w hw=>?_)
      cases i with
      |zero=>
       cases hw;exact⟨_,rfl,t,rfl,q,EB I c b rfl,j⟩
      |succ i=>exact O i w hw
   .cases e
  .cases e
theorem MS: ∀{kvs}{xs},DenN X.K α H kvs xs-> ∀{as}{bs},DenN X.K α H as bs->DenN X.K α H (kvs.foldl (λj p=>putK j p.1 p.2) as) (xs.foldl (λj x=>storedH j x.1 x.2.1 x.2.2) bs)
 |_,_,.nil,as,bs,h=>h
 |_,_,.cons hk e ha hd r l,as,bs,h=>by exact MS l (PJ h hk e ha hd r)
theorem Dx(W:↑20):CallR X (.type "dict") ↑32:=by intro pins s σ H xs us Q I r h;refine h.p λα l vs ds kvs g=>g.f λac L N O Y q=>?_;subst ac;refine(vals1 r).a λu ad U=>?_;subst ad;cases U;refine(I.list L).b λZ C ap hz=>?_;obtain ⟨o,n,S,y,hd,b⟩:=ap;refine(MQ I O N C).b λxs c E h3=>?_;have hl:=C.length;refine EI W (I.ok.hd Y) S y hd b (by rw[sA0,E]) (by rw[sA0];lia) (λi v e=>h3 i v (by simpa using e)) (PF I c) λh' tk T k=>?_;have hm:=MN xs;refine k.g λD es F V=>V.f λa G z he _ hn=>?_;refine Z0 (.ref ↑0) _ (I.laid (o:=DN X.prog X.w ↑0 (CG xs)) T (à _) ?_) rfl (q _ _ ↑25 (MS c .nil));refine⟨⟨by lia,Ŋ.mpr (Ne.symm (é (PK I))),D,es,F,a,G,z,he,hn⟩,⟨D,a⟩,?_⟩;rintro c E ⟨M,J,B,j,d,m,r⟩ P;exact⟨M,J,B,j,d,P B m,r⟩
noncomputable def MT:List Er->Sto->R Er
 |[r],S=>match (jO S r).bind iG with |some kvs=>.ok (.val (.loc S.length)) (S++[.dic (Al kvs)])|none=>.no
 |_,_=>.no
def Ra(k:X.calm=true):pF X W ↑32 MT:=by
 intro s vs α S H Q b d a;unfold MT at a;split at a
 .split at a
  .rename_i kvs e;refine(rS d).a λv g n=>?_;subst g
   cases z:jO S _ with
   |none=>rw[z]at e;cases e
   |some ds=>
    rw[z]at e;refine(sM rfl b z n).c λi r u q l=>?_;subst u;refine XL (α) i r ds kvs rfl q l e k (λp ys h dn=>?_);have c:=b.newx (o:=DN X.prog X.w p ys) h;obtain⟨x,j⟩:=b.put (m:=.dic _) h (.inr ⟨_,zO,dn.ex0 ⟨⟨[p],rfl⟩,c.tup,c.frz⟩⟩);exact a _ _ _ x j (DenE.val (qD (by rw[<-b.len,æ (à _),sub_self];rfl)))
  .exact a.elim
 .exact a.elim
end
section
variable{C:Addr}
theorem DenF.len{K:U0}: ∀{fs j},DenF K α H fs j->↑44=fs.length
 |_,_,.nil=>rfl
 |_,_,.cons b l=>by rw[lC,lC,DenF.len l]
def RMt(P:ŕ)(w:World)(K:U0)(mg:K0)(base:Heap)(m:Str)(k n:Nat)(c:Str)(F:↑21):Prop:= ∃C a b ps,OC K c C/\Meth K C m a/\FnOk P w K mg base GP k a b ps (VW ⟨K,mg,P,w⟩ n F)/\Binds K b ps []
end
section
def zAM(X:Cx):R2:=λx y H Q=> ∃(ks:List (Key×V))(d:Addr)(k:Key)(v:V),x=.ref d/\y=kV k/\DK X H d ks/\pM ks k=some v/\Q v H
def UA(p q:Er)(S:Sto):R Er:=match CB S p,q with
 |some (_,kvs),.val k=>if vB k=true then(match look kvs k with |some d=>.ok (.val d) S|none=>.no)else .no
 |_,_=>.no
def Rb:KL X W (zAM X) UA:=by
 intro p q x y α S H Q i B n a;unfold UA at a;split at a
 .rename_i l m k s;refine(Iz i s B).m λc A g=>g.f λE C D e r _=>?_;subst E;split at a
  .rename_i h;obtain⟨w,b⟩:=î.mp h;have v:=XM b n;subst v;split at a
   .rename_i d j;refine((pN r (XJ b)).1 d j).a λu z o=>?_;exact YQ A c w u ⟨rfl,rfl,e,z,Post.val a i o⟩
   .exact a.elim
  .exact a.elim
 .exact a.elim
def E3(D:zI X W a f)(E:zI X W b g)(hs:GN b:=by exact λ_ _=>rfl):zI X W (.Subscript a b pos) (λz S=>(f z S).bind λp B=>(g z B).bind λq S2=>UA p q S2):=Tq (by intro c i pins s σ H x y u v Q I A r h e;refine V0 λK=>?_;refine h.o λJ d k j F J o hv q=>?_;subst F;subst J;subst A;obtain⟨_,hs,G,w,m⟩:=eQ I o;refine((GW w k).1 j hv).a λF C n=>?_;refine K ?_;exact subscriptTail_builtinR m.typeIs slot_dict_getitem.lookup (wpAny_getItem_of (TU r) m.mapOf C ⟨rfl,j,H,I.tok _,n,q⟩) e) Rb D E hs
end
section
theorem Jg(hv:s.heap.IsItemsView v d)(h:s.heap.get? d=some od)(a:od.data=.dict es ep)
  (hQ:Q (.ref ↑0) {s with heap:=s.heap.push {cls:=.type "dict_itemiterator",data:=.fields #[.none,.bool false,.ref d,.int 0 0,.int es.size 0,.int ep 0,.none,.none]}}):wpAny (model P w) A (pyIter (.ref v)) Q E s:=by
 refine(id hv).b λj e i c=>?_;refine wpAny_pyIter_slot hv.typeIs PySem.F.slot_dict_items_iter (ë PySem.F.slot_dict_items_iter hv.typeIs PySem.F.entry_dict_items_iter ?_ (PySem.F.args_dict_items_iter_1 _));refine wB (wP (wB ?_));refine wB (ò e c rfl (wP (wB ?_)));refine wB (ď h a (wB (ģ h a ?_)));have b:Builtin.Dict_items.ownsTuple "dict_itemiterator"=true:=by decide
 simp only[b,if_true]
 refine ü (wP ⟨_,rfl,"dict_itemiterator",_,(Z3 _ (á _ rfl) rfl),PySem.F.slot_dict_itemiterator_next.lookup,?_⟩)
  (by simp only[sizeOk,Builtin.Dict_items.ownedTupleFields,sA0,lA,lC,ø,ĝ];lia)
 simpa [rawInt,Builtin.Dict_items.ownedTupleFields]using hQ
theorem Re(J:IsItemIter s.heap it d i es.size ep ok ov)(X:s.heap.get? d=some od)(U:od.data=.dict es ep)(hlt')
  (hQ: ∀h',IsItemIterOut h' it d (i+1) es.size ep es[i].key es[i].val ↑0->
   h'.get? ↑0=some {cls:=.type "tuple",data:=.seq #[es[i].key,es[i].val]}->h'.objs.size=↑0+1->
   (∀b o,b≠it->s.heap.get? b=some o->h'.get? b=some o)->Q (some (.ref ↑0)) {s with heap:=h'}):
  wpAny (model P w) A (pyNext (.ref it)) Q E s:=by
 obtain⟨D,g,S,Y,T⟩:=s;have hT:Shared.TypeIs ⟨D,g,S,Y,T⟩ (.ref it) "dict_itemiterator":=⟨_,J,rfl⟩
 unfold pyNext
 refine wB (Ć (í hT PySem.F.slot_dict_itemiterator_next
  (ë PySem.F.slot_dict_itemiterator_next hT PySem.F.entry_dict_itemiterator_next ?_ (PySem.F.args_dict_itemiterator_next_1 _))))
 rw[28];refine wB ?_;refine wB ?_
 first |refine wB (Į hT (wP ?_))|refine wB _
 refine wB (wpAny_fieldsOf J rfl ?_);have W:Builtin.Dict_items.ownsTuple "dict_itemiterator"=true:=by decide
 rw[W,iP rfl];show wpAny _ _ (if _=true then _ else _) _ _ _;rw[iN (show¬((Value.ref d==Value.none)=true)from xF0)];rw[28];refine wB (ď X U ?_);rw[30];rw[28];refine wB (ģ X U ?_);rw[30];refine wP ?_;simp only[show¬((i:Int)<0)from by lia,iF,Ĉ,Ċ hlt'];refine wB ?_
 first |refine wB (Į hT (wP ?_))|refine wB _
 refine wB (wpAny_isOneOf_itemiter hT ?_);show wpAny _ _ (setField (.ref it) 3 (rawInt ((i:Int)+1)) >>= _) _ _ ⟨D,g,S,Y,T⟩;refine wB (ö J (by simp) λa h n=>?_)
 replace n:Heap.SameBut it D a:=n
 replace h:IsItemIter a it d (i+1) es.size ep ok ov:=by
  have e:((i+1:Nat):Int)=(i:Int)+1:=by lia
  unfold IsItemIter;rw[e];simpa [rawInt]using h
 have v:Shared.TypeIs ⟨a,g,S,Y,T⟩ (.ref it) "dict_itemiterator":=⟨_,h,rfl⟩
 refine wB (ù ?_);refine wB (wpAny_isOneOf_itemiter v ?_);refine wB (wpAny_isOneOf_itemiter v ?_);show wpAny _ _ _ _ _ ⟨a,g,S,Y,T⟩;unfold Builtin.Dict_items.pairFromOwner;refine wB (wpAny_newTuple ?_);have k:IsItemIter (a.push {cls:=.type "tuple",data:=.seq #[es[i].key,es[i].val]}) it d (i+1) es.size ep ok ov:=hP0 _ h;generalize q:a.push {cls:=.type "tuple",data:=.seq #[es[i].key,es[i].val]}=h₂ at k;have r:a.objs.size=D.objs.size:=n.1;have K:it<D.objs.size:=ã J;have M:h₂.get? D.objs.size=some {cls:=.type "tuple",data:=.seq #[es[i].key,es[i].val]}:=by rw[<-q, <-r];exact á _ rfl
 have L:h₂.objs.size=D.objs.size+1:=by rw[<-q,Ĕ,r]
 have N: ∀b o,b≠it->D.get? b=some o->h₂.get? b=some o:=λb o O e=>by rw[<-q];exact hP0 _ (n.extBut b o O e)
 show wpAny _ _ _ _ _ ⟨h₂,g,S,Y,T⟩;rw[r];clear q h n v r a;refine wB ?_;unfold Builtin.Dict_items.ownedTupleIsFree;refine wB (ò k rfl (x:=.none) rfl (wP ?_));simp only[if_true];refine wB (ò k rfl (x:=ok) rfl ?_);refine wB (ò k rfl (x:=ov) rfl ?_);refine wB (ö k (by simp) λG y c=>?_)
 replace c:Heap.SameBut it h₂ G:=c
 replace y:IsItemIter G it d (i+1) es.size ep es[i].key ov:=y
 refine wB (ö y (by simp) λI z j=>?_)
 replace j:Heap.SameBut it G I:=j
 replace z:IsItemIter I it d (i+1) es.size ep es[i].key es[i].val:=z
 refine wB (ö z (by simp) λH B m=>?_)
 replace m:Heap.SameBut it I H:=m
 replace B:IsItemIterOut H it d (i+1) es.size ep es[i].key es[i].val D.objs.size:=B
 refine wB (ö B (by simp) λC u p=>?_)
 replace p:Heap.SameBut it H C:=p
 replace u:IsItemIterOut C it d (i+1) es.size ep es[i].key es[i].val D.objs.size:=u
 refine wB (wpAny_letGo (wP (wP (Z3 _ rfl (wP (hQ C u ?_ ?_ ?_))))))
 .exact p.extBut _ _ (ú K) (m.extBut _ _ (ú K) (j.extBut _ _ (ú K) (c.extBut _ _ (ú K) M)))
 .show C.objs.size=D.objs.size+1;rw[p.1,m.1,j.1,c.1,L]
 .exact λb o O e=>p.extBut b o O (m.extBut b o O (j.extBut b o O (c.extBut b o O (N b o O e))))
theorem Rf(j:↑70)(a:IsItemIter s.heap it d i es.size ep ok ov)(c:s.heap.get? d=some od)(b:od.data=.dict es ep)(e:es.size<=i)
  (hQ: ∀h',Heap.ExtBut it s.heap h'->Q none {s with heap:=h'}):wpAny (model P w) A (pyNext (.ref it)) Q E s:=by
 have hT:s.TypeIs (.ref it) "dict_itemiterator":=⟨_,a,rfl⟩
 refine wB (Ć (í hT PySem.F.slot_dict_itemiterator_next
  (ë PySem.F.slot_dict_itemiterator_next hT PySem.F.entry_dict_itemiterator_next ?_ (PySem.F.args_dict_itemiterator_next_1 _))))
 rw[28];refine wB ?_;refine wB ?_
 first |refine wB (Į hT (wP ?_))|refine wB _
 refine wB (wpAny_fieldsOf a rfl ?_);have h:Builtin.Dict_items.ownsTuple "dict_itemiterator"=true:=by decide
 rw[21];rw[28];refine wB (ď c b ?_);rw[30];rw[28];refine wB (ģ c b ?_);rw[30];refine wP ?_;simp only[show¬(_<0)from by lia,Ĉ,Ĵ e];refine wB ?_
 first |refine wB (Į hT (wP ?_))|refine wB _
 show wpAny _ _ (setField _ 2 .none >>= _) _ _ s;refine wB (Ń a rfl (by simp) ?_);refine wB ?_;refine wB (ü ?_ (by size_fits));refine wB (wpAny_of_eq (by first |rfl|(simp only[firstArgMember];rfl)) ?_);refine ü ?_ (by size_fits);refine wB (wpAny_handled ?_);rw[show A.in1.handled=none from j];refine wB (wP (wpAny_throw ?_));refine wB (Ě (Z3 _ (á _ rfl) rfl) ń ?_);exact wP (hQ _ (((č ..).extBut.push _).push _))
end
section
def UB:entryFor table "dict_itemiterator.__iter__"=some Builtin.«dict_keyiterator.__iter__»:=
 entryFor_alias (id':="dict_keyiterator.__iter__") (by kernel_rfl) rfl ↑50 (by kernel_rfl)
def KY(hT:s.TypeIs (.ref it) "dict_itemiterator")(h:Q (.ref it) s):wpAny (model P w) A (pyIter (.ref it)) Q E s:=by refine wpAny_pyIter_slot hT PySem.F.slot_dict_itemiterator_iter (ë PySem.F.slot_dict_itemiterator_iter hT UB ?_ (PySem.F.args_dict_itemiterator_iter_1 _));show wpAny _ _ _ _ _ s;exact wP ⟨_,rfl,"dict_itemiterator",_,hT,PySem.F.slot_dict_itemiterator_next.lookup,h⟩
end
noncomputable def Iti(P:ŕ)(w:World)(d:Addr)(o:Obj)(xs:↑46)(vs:List V):It:=
 ⟨λi H=>H d=some (.frz o (DN P w d xs))/\i<↑8,
   λi H v H'=> ∃p x y,H p=none/\v=.ref p/\xs[i]? =some x/\vs[i]? =some y/\H'=xV H p (.tup [.ref x.2.1,y]),
   λi H=>H d=some (.frz o (DN P w d xs))/\↑8<=i⟩
theorem XR{K:U0}(hdat:o.data=.dict es ep)(hes:es.toList=xs.map (entryOfKey (yC P w)))(hvs:Vals vs (xs.map (·.2.2))):
  Turn P w K (.Tuple elts kt pt) (Iti P w d o xs vs) [it] it (λi h=> ∃ok ov,IsItemIter h it d i es.size ep ok ov) where
 mem:=by simp
 obj:=λi h ⟨ok,ov,st⟩ b hb=>by cases mS.mp hb;exact Z3 _ st (λv q=>by cases q)
 keep:=λi h h' ⟨ok,ov,st⟩ k=>(Yk ok ov (k it (by simp) _ st))
 item:=by
  rw[23];refine V0 λc=>?_;obtain⟨hd,hi⟩:=hg;obtain⟨ok,ov,hit⟩:=st;obtain⟨hod,_⟩:=(I.hok d _ hd)
  have hsz:es.size=xs.length:=by rw[<-ï,hes,lM]
  have hlt:i<es.size:=by lia
  obtain⟨x,hx⟩: ∃x,xs[i]? =some x:=⟨_,gE hi⟩
  have he:=by have:=congrArg (·[i]?) hes;simp only[ð,ó,hx,Ċ hlt]at this;exact ä this
  have hl:=hvs.length;rw[lM]at hl;obtain⟨y,hy⟩: ∃y,vs[i]? =some y:=⟨_,gE #[0]⟩
  refine(hvs.get hy).a λu hu ru=>?_;rw[ó,hx]at hu;refine c ?_;cases hu;refine Re hit hod hdat hlt λh' a1 a2 a3 a4=>(Z3 _ rfl ?_)
  refine wpAny_letOwnedTupleGo_items a1 λh2 z2 sb2=>?_
  replace a2:h'.get? ↑0=some {cls:=.type "tuple",data:=.seq #[.ref x.2.1,x.2.2]}:=by rw[a2,he];rfl
  have I0:Inv X pins σ _ {s with heap:=s.heap.push {cls:=.type "tuple",data:=.seq #[.ref x.2.1,x.2.2]}}:=
   I.laid (o:=.tup [.ref x.2.1,y]) (λb o e=>hP0 _ e) (à _) ⟨by show 2<=sizeLine;decide,[.ref x.2.1,x.2.2],.cons rfl (.cons ru .nil),⟨_,á _ rfl,rfl,_,rfl⟩⟩
  have fr: ∀b∈[it],xV H ↑0 (.tup [.ref x.2.1,y]) b=none:=λb hb=>by cases mS.mp hb;rw[zH (é (ã hit))];exact(hf it hb).1
  have mv: ∀b o,b∉[it]->(s.heap.push {cls:=.type "tuple",data:=.seq #[.ref x.2.1,x.2.2]}).get? b=some o->h2.get? b=some o:=λb o hb e=>by
   rw[mS]at hb;refine sb2.extBut _ _ hb ?_;by_cases hbs:b=↑0
   .subst hbs;rw[á _ rfl]at e;cases e;exact a2
   .rw[Heap.get?_push_ne _ _ _ hbs]at e;exact a4 b o hb e
  exact XD (.ref ↑0) _ (I0.turnedL (t':=s.toks) mv λb hb=>let ⟨_,c2,c3,c4,c5,c6⟩:=hf b hb;⟨fr b hb,c2,c3,c4,c5,c6⟩) rfl (XV (↑0) x y ↑25 rfl hx hy rfl) (Yk _ _ z2) fr
 done:=by
  rw[23];rw[20];obtain⟨hd,hi⟩:=hg;obtain⟨ok,ov,hit⟩:=st;obtain⟨hod,_⟩:=(I.hok d _ hd)
  have hsz:es.size=xs.length:=by rw[<-ï,hes,lM]
  refine g ?_;refine Rf (I.ok.hd hc) hit hod hdat #[0] λh' he=>⟨rfl,?_⟩
  exact I.turnedL (λb o hb e=>he b o (λz=>hb (by rw[z];simp)) e) hf
 self:=λ_ _ _ _ _ ⟨_,_,st⟩ h=>KY (Z3 _ st rfl) h
section
variable{pins:L1}{σ:St}{H:Hp}{s:œ}{α:B9}{o:Expr}{apos pos pt:Pos}{elts:Q0}{kt:Nat}
def _root_.L2.Inv.freezeD(I:↑2)(i:DD X H d xs)(dn:DenN X.K α H kvs xs)(M:s.heap.get? d=some ob):Inv X pins σ (xV H d (.frz ob (DN X.prog X.w d xs))) s:=by
 refine(qE I i dn).e λg L hs=>?_;refine g.g λE es C V=>V.f λq N Q O T hn=>?_;have a: ∀j,H d≠some (.tup j):=λj e=>by rcases i with h|⟨_,h⟩<;>(rw[h]at e;cases e)
 have p: ∀b,H d≠some (.own b):=λb e=>by rcases i with h|⟨_,h⟩<;>(rw[h]at e;cases e)
 have m: ∀b,H d≠some (.tbl b):=λb e=>by rcases i with h|⟨_,h⟩<;>(rw[h]at e;cases e)
 have k:H d≠none:=λe=>by rcases i with h|⟨_,h⟩<;>(rw[h]at e;cases e)
 have ne: ∀{b:Addr}{v:HO},H b=some v->H d≠some v->b≠d:=λe n z=>n (z▸e);refine I.step (ch:=[]) (λ_ z=>nomatch z) (λb o _ _ _ e _=>e) (λb o _ _ _ e _=>⟨_,e⟩) (λb o _ e n=>?_) (λb o _ e=>⟨o,e⟩) (λb j e=>?_) (λb o u e=>?_) (λb ps e=>?_) (λ_ z=>z) (λb u e=>?_) I.bare
 .rw[zH (λz=>k (by rw[<-z];exact n))];exact n
 .rw[zH (ne e (a j))];exact e
 .rw[zH (ne e (i.nf o u))];exact e
 .exact⟨#[],by rw[zH (ne e (m ps)),e];simp⟩
 .by_cases B:b=d
  .subst B;rw[zO]at e;cases e;refine⟨M,⟨L,hs,E,es,C,q,N,Q,O,hn⟩,⟨_,q⟩,?_⟩;rintro S U ⟨F,D,P,A,y,G,r⟩ J;exact⟨F,D,P,A,y,J _ G,r⟩
  .rw[zH B]at e;exact(I.hok b u e).stay (λ_ _ _ r=>r) (λc r=>by rw[zH (ne r (p b))];exact r) λc j r=>by rw[zH (ne r (a j))];exact r
noncomputable def IU(l d:Addr):HO:=.ext λh=>h.IsItemsView l d
def Jh:Gb X "dict.items" (λx vs H Q=> ∃d xs,x=.ref d/\vs=[]/\DD X H d xs/\ ∀l,H l=none->Q (.ref l) (xV H l (IU l d))):=by
 intro pins s σ H x vs v p Q I c i h;refine h.k λd xs b g a q=>?_;subst b;subst g;subst c;have:=i.zero;subst this;have hT:s.TypeIs _ "dict":=(sV pins s σ H (.ref d) _ I rfl (YS d xs rfl a)).1
 have hs:(d==sysModules)=false:=by
  rcases a with h|⟨rfl,h⟩
  .obtain⟨⟨u,hs,_⟩,_⟩:=(I.hok d _ h)
   exact hs
  .refine(I.hok d _ h).e λ_ hs _=>?_
   exact hs
 refine ë PySem.F.slot_dict_items hT PySem.F.entry_dict_items ?_ (PySem.F.args_dict_items_1 _);refine wB ?_;refine wB (ę hT ?_);show wpAny _ _ _ _ _ s;refine wP ?_;show wpAny _ _ _ _ _ s;unfold Builtin.Dict.showsAll;refine qq (iN (by rw[hs];exact xF0)) ?_;rw[28];refine wB (ü (wP ⟨_,rfl,.ref ↑0,_,I.laid (o:=IU ↑0 d) (λb o e=>hP0 _ e) (à _) ⟨↑26,⟨_,á _ rfl⟩,?_⟩,rfl,q _ ↑25⟩));rintro m n ⟨o,k,r⟩ j;exact Z3 o (j o k) r
def qIts(X:Cx)(R:It->Hp->Prop)(x:V)(H:Hp):Prop:= ∃l d xs vs α a,x=.ref l/\H l=some (IU l d)/\DD X H d xs/\DenN X.K α H a xs/\Vals vs (xs.map (·.2.2))/\ ∀o,R (Iti X.prog X.w d o xs vs) (xV H d (.frz o (DN X.prog X.w d xs)))
def iIts(X:Cx)(b:TE):TI:=λσ H R=>b σ H λx a=>TyD X x a/\ ∃d xs,x=.ref d/\([]:List V)=[]/\DD X a d xs/\ ∀l,a l=none->qIts X R (.ref l) (xV a l (IU l d))
def Ji(D:PE X o to)(i:attributeBase o "items" X.env (eval o X.env)=eval o X.env:=by rfl)(j:↑29=true:=by rfl):
  PI X (.Tuple elts kt pt) (.Call (.Attribute o "items" apos) [] [] pos) (iIts X to):=by
 intro pins s σ H R I h;refine wG (Ah sV PySem.F.plainAttrs_dict PySem.F.slot_dict_items PySem.F.type_dict_items Jh D i j pins s σ H _ I h) λv k ⟨x,M,I1,z,L⟩=>?_;refine L.t λl d xs vs α y g=>g.f λQ u n dn hv q=>?_;subst Q;cases z;refine V0 λV=>?_;obtain⟨a,_⟩:=(I1.hok l _ u)
 refine(qE I1 n dn).e λT N hs=>?_;refine T.g λm es w U=>U.f λc P r G O hn=>?_;refine V ?_;refine Jg a c r ?_;have p: ∀b o,k.heap.get? b=some o->(k.heap.push {cls:=.type "dict_itemiterator",data:=.fields #[.none,.bool false,.ref d,.int 0 0,.int es.size 0,.int w 0,.none,.none]}).get? b=some o:=λb o e=>hP0 _ e;refine XL k.heap.objs.size ([k.heap.objs.size]) _ _ _ rfl ((I1.kept (t':=k.toks) p).freezeD n dn (p d m c)) (XR r G hv) (Yk _ _ (á _ rfl)) (λb J=>?_) (q m);cases mS.mp J;refine(I1.fpOk (à _) (I1.hok.fresh (à k.heap.objs.size))).f λ_ E K B C A=>?_;exact⟨by rw[zH (ú (ã c))];exact I1.hok.fresh (à _),E,K,B,C,A⟩
def Dy(p:Er)(S:Sto):R Wk:=match jW S p with
 |some (l,kvs)=>.ok ⟨kvs.map λa=>.tup [a.1,a.2],[]⟩ (S.set l (.fdc kvs))
 |none=>.no
theorem DenN.at'{K:U0}: ∀{kvs}{xs}{i:Nat}{j},DenN K α H kvs xs->kvs[i]? =some j-> ∃x,xs[i]? =some x/\Den K α H j.1 (.ref x.2.1)
 |_,_,0,_,.cons hk e a d r l,h=>by cases h;exact Z3 _ rfl a
 |_,_,i+1,_,.cons hk e a d r l,h=>DenN.at' (i:=i) l h
theorem Jj(O:zI X W o f)(j:attributeBase o "items" X.env (eval o X.env)=eval o X.env:=by rfl)(b:↑29=true:=by rfl):
  KC X W (.Tuple elts kt pt) (.Call (.Attribute o "items" apos) [] [] pos) (λQ S=>(f Q S).bind Dy):=by
 refine O.a λt O k=>?_;refine Z3 _ (Ji O j b) (λα Q S σ H Rc wd sl q=>k α Q S σ H _ wd sl (q.bind λu p S1 s H1 e1 x1 M d1 n=>?_))
 replace n:=n.shift x1
 unfold Dy at n;split at n
 .rename_i l a ed;refine(sS M ed d1.1).l λc xs g D hS N U=>?_;subst g;refine(QB U).a λvs J P=>?_;refine⟨⟨c,xs,rfl,N⟩,c,xs,rfl,rfl,N,λv hv=>?_⟩;have F:=M.newx (o:=IU v c) hv;have Z:=M.new (o:=IU v c) hv
  have m:DD X (xV H1 v (IU v c)) c xs:=by
   rcases N with h|⟨e,h⟩
   .exact .inl (by rw[zH (zN h hv)];exact h)
   .exact .inr ⟨e,by rw[zH (zN h hv)];exact h⟩
  refine WW v c xs vs s a ⟨rfl,zO,m,U.ex0 F.toEx0,P,λob=>?_⟩;have T:=Z.writex D m.nf (o:=.frz ob (DN X.prog X.w c xs));have B:=(U.ex0 F.toEx0).ex0 T.toEx0;refine((n.shift F).shift T).here (Z.write D m.nf (ob:=.fdc a) (YS ob xs zO B)) ⟨λ(α:B9) _ (H:Hp)=>H c=some _/\DenN X.K α H a xs/\DenL X.K α H _ vs,?_,⟨zO,B,(J.ext F).ext T⟩,λs S1 H1 L S2 H2 ⟨A,C,G⟩ x w _=>⟨x.frz _ _ _ A,C.ex0 x.toEx0,DenL.ext x G⟩,jT⟩;intro i L S2 H2 ⟨A,C,G⟩ Y;have aa:=C.length;refine⟨λhi=>?_,λhi=>⟨A,by rw[lM]at hi;lia⟩⟩;rw[lM]at hi;refine⟨⟨A,by lia⟩,?_⟩;rintro _ _ ⟨p,x,y,hp,rfl,hx,hy,rfl⟩;refine V0 λV=>?_;obtain⟨I,d⟩: ∃I,a[i]? =some I:=⟨_,gE hi⟩
  refine(C.at' d).a λx' E dk=>?_;rw[hx]at E;refine V ?_;cases E;refine(G.at (by rw[ó,d];rfl)).a λy' z dy=>?_;rw[hy]at z;cases z;have r:=Y.newx (o:=.tup [.ref x.2.1,y]) hp;refine⟨r,Y.new hp,⟨r.frz _ _ _ A,C.ex0 r.toEx0,G.ext r⟩,.tup [I.1,I.2],by rw[ó,d];rfl,?_⟩;exact eO (.of zO) (zQ (dk.ext r) (zQ (dy.ext r) zZ))
 .exact n.elim
end
end M
end L2
namespace PySem
def getAttr?_miss_zip
  (k:s.heap.get? a=some {cls:=.type "zip",dict:=none,data:=.fields xs,slots:=sl}) (n:typeLookup (.type "zip") name=pure none) (c:(["__module__","__name__","__qualname__","__doc__","__annotations__"]:C0).contains name=false) (r:↑70)
  (h: ∀h' m,↑36->Q none {s with heap:=h',toks:=m}) (hsz:name.length+100<=sizeLine:=by size_fits):
  wpAny ↑6 A (getAttr? (.ref a) name) Q E s:=by
 obtain⟨q,g,d,m,p⟩:=s;have hT: ∀j,(⟨q,g,d,j,p⟩:œ).TypeIs (.ref a) "zip":=λ_=>(Z3 _ k rfl)
 have C:=sub_AttributeError;have B:=F.slot_zip_getattribute.lookup;have v:=F.slot_zip_getattribute.bind (.ref a);have z:=(show typeLookup (.type "zip") "__getattr__"=pure none by rw[typeLookup_type];kernel_rfl);unfold getAttr? getAttrBy? getAttrBy
 repeat (any_goals (first |assumption|exact hT _|((with_reducible show wpAny _ _ (call (Value.builtin "zip.__getattribute__") _ _) _ _ _);refine call_meets F.slot_zip_getattribute (hT _) (entryFor_alias (id':="object.__getattribute__") (by kernel_rfl) ↑50 ↑50 (by kernel_rfl)) (F.args_zip_getattribute_2 _ _) ((show Meets (Builtin.«object.__getattribute__» ⟨[.ref a,.str name _],[]⟩) (λA R s=>s.heap.get? a=some {cls:=.type "zip",dict:=none,data:=.fields xs,slots:=sl}/\raisesAttr (.ref a) name A R s) from Meets.of_wp λprog w A R s hs=>by
    obtain⟨q,g,d,m,p⟩:=s;obtain⟨k,hs⟩:=hs
    rw[26]
    simp only[c,fT,iF]
    rw[26]
    exact wpAny_raiseAttrError hs.1 hs.2 (attrMsg_fits ↑50 hsz))) ⟨k,r,λh' j e i=>?_⟩)|wp_step))
 refine i.there.m λu y D=>?_;show wpAny _ _ (getattributeRaised _ _ _ _ _ _ _) _ _ _;unfold getattributeRaised
 rw[26]
 exact h _ _ i.keeps
def UD(h:Q (s.heap.get? a) s):wpAny M A (loadIfAlive a) Q E s:=λ_ _ _=>h
end PySem
namespace L2
namespace M
open PySem PySem.Spec PyProof.Rows
noncomputable def E4(a b:Ŕ)(TI TO:Addr):Obj:={cls:=.type "zip",dict:=none,data:=.fields #[a,b,.bool false,.ref TI,.ref TO],slots:=#[]}
structure ZipSt2(k1 k2:Bool)(z TI TO i1 i2 l1 l2:Addr)(i:Nat)(h:Heap):Prop where
 z: ∃T b,h.get? z=some (E4 (rawInt (T:Nat)) (.bool b) TI TO)/\T≠z/\T≠i1/\T≠i2/\ ∃o,h.get? T=some o
 ti:IsPair h TI (.ref i1) (.ref i2)
 s1:IsSub k1 h i1 l1 i
 s2:IsSub k2 h i2 l2 i
section
variable{TI TO:Addr}
def UE{T:Addr}(hz:s.heap.get? z=some (E4 (rawInt  T ) (.bool b) TI TO))(hT:s.heap.get? T=some o)
  (hQ: ∀h',h'.get? z=some (E4 (rawInt  T ) (.bool true) TI TO)->Heap.SameBut z s.heap h'->Q false {s with heap:=h'}):
  wpAny ↑6 A (Builtin.SmallTypes.ownedTupleIsFree (.ref z)) Q E s:=by
 refine wB (ò hz rfl rfl ?_);show wpAny _ _ (loadIfAlive T >>= _) _ _ _;refine wB (UD ?_);rw[hT];rw[25];refine wB (ò hz rfl rfl ?_)
 cases b with
 |true=>
  refine wP (hQ s.heap hz ?_);exact⟨rfl,λ_ _=>rfl⟩
 |false=>
  rw[25];exact wB (ö hz (by simp) λh' c a=>wP (hQ h' c a))
theorem Dz{Q:VP}(D:↑60)(o1:Off l1 z TO i1 i2)(M:Off l2 z TO i1 i2)(st:ZipSt2 k1 k2 z TI TO i1 i2 l1 l2 i s.heap)(m:IsSeq k1 s.heap l1 xs)(I:IsSeq k2 s.heap l2 ys)(O:xs[i]? =some x)(hy:ys[i]? =some y)
  (hQ: ∀h',ZipSt2 k1 k2 z TI TO i1 i2 l1 l2 (i+1) h'->IsPair h' ↑0 x y->
   (∀c o,c≠z->c≠i1->c≠i2->s.heap.get? c=some o->h'.get? c=some o)->Q (.ref ↑0) {s with heap:=h'}):
  wpAny ↑6 A (Builtin.«zip.__next__» ⟨[.ref z],[]⟩) (λfin Y=> ∃v,fin=.done (.ret v)/\Q v Y) E s:=by
 obtain⟨⟨T,b,u,K,N,L,J,hT⟩,k,P,X⟩:=st;rw[32];refine wB (ò u rfl rfl ?_);refine wB (ò u rfl rfl (wB (ĕ k rfl ?_)));refine wB (UE u hT λha p d=>?_);simp only[List.forIn_toArray];refine wB (wB (wB (ù ?_)));refine wB (iD (P.move λo e=>d.extBut _ _ D.i1z e) (m.move λo e=>d.extBut _ _ o1.1 e) O λhb B j=>wP ?_);refine wP ?_;refine wB (wB (ù ?_));have r: ∀c o,c≠z->c≠i1->s.heap.get? c=some o->hb.get? c=some o:=λc o C H e=>j.extBut _ _ H (d.extBut _ _ C e);refine wB (iD (X.move λo e=>r _ o D.i2z D.i12.symm e) (I.move λo e=>r _ o M.1 M.2.2.1 e) hy λG q a=>wP ?_);refine wP (wP ?_);have h:=λc o C H Z e=>a.extBut _ _ Z (r c o C H e);have hsz:G.objs.size=s.heap.objs.size:=by rw[a.1,j.1,d.1]
 refine wB (wpAny_newTuple (hsz:=by show 2<=sizeLine;decide) ?_);refine wP ⟨_,rfl,?_⟩;show Q _ _
 have F: ∀{n:Nat},n=↑0->G.objs.size=n->Q _ {s with heap:=G.push {cls:=.type "tuple",data:=.seq #[x,y]}}:=λ{n} e1 S=>by
  subst e1;refine hQ _ ⟨⟨T,true,hP0 _ (a.extBut _ _ D.i2z.symm (j.extBut _ _ D.i1z.symm p)),K,N,L,J,hP0 _ (h T J K N L hT)⟩,hP0 _ (h TI _ D.TIz D.TIi1 D.TIi2 k),?_,?_⟩ ?_ λc o W c3 U e=>hP0 _ (h c o W c3 U e)
  .exact B.move λo e=>hP0 _ (a.extBut _ _ D.i12 e)
  .exact q.move λo e=>hP0 _ e
  .rw[<-S];exact á _ rfl
 exact F hsz rfl
def Jk(H:↑70)(D:↑60)(J:Off l1 z TO i1 i2)(I:Off l2 z TO i1 i2)(st:ZipSt2 k1 k2 z TI TO i1 i2 l1 l2 i s.heap)(j:IsSeq k1 s.heap l1 xs)(F:IsSeq k2 s.heap l2 ys)(k:xs[i]? =none\/ys[i]? =none)
  (hE: ∀h' e,(∀c o,c≠z->c≠i1->c≠i2->s.heap.get? c=some o->h'.get? c=some o)->(∃o,h'.get? e=some o/\o.cls=.type "StopIteration")->E (.ref e) {s with heap:=h'}):
  wpAny ↑6 A (Builtin.«zip.__next__» ⟨[.ref z],[]⟩) Q E s:=by
 obtain⟨⟨T,b,r,W,Z,X,U,hT⟩,v,G,O⟩:=st;rw[32];refine wB (ò r rfl rfl ?_);refine wB (ò r rfl rfl (wB (ĕ v rfl ?_)));refine wB (UE r hT λY K a=>?_);refine wB (wB (wB (ù ?_)))
 cases m:xs[i]? with
 |none=>
  exact wB (BO H (G.move λo e=>a.extBut _ _ D.i1z e) (j.move λo e=>a.extBut _ _ J.1 e) m λB e d y=>hE B e (λc o u C _ q=>d _ _ C (a.extBut _ _ u q)) y)
 |some x=>
  refine wB (iD (G.move λo e=>a.extBut _ _ D.i1z e) (j.move λo e=>a.extBut _ _ J.1 e) m λB M d=>wP ?_);refine wP ?_;refine wB (wB (ù ?_));have p: ∀c o,c≠z->c≠i1->s.heap.get? c=some o->B.get? c=some o:=λc o N S e=>d.extBut _ _ S (a.extBut _ _ N e);exact wB (BO H (O.move λo e=>p _ o D.i2z D.i12.symm e) (F.move λo e=>p _ o I.1 I.2.2.1 e) (by rcases k with h|h;(rw[m]at h;cases h);exact h) λP e n y=>hE P e (λc o u C L q=>n _ _ L (p c o u C q)) y)
end
def ZSt(a j:Bool)(z TI TO b c d e:Addr)(i:Nat)(h:Heap):Prop:=ZipSt a j z TI TO b c d e i h\/ZipSt2 a j z TI TO b c d e i h
section
variable{TI TO:Addr}
def Rg(D:↑60)(r:Off l1 z TO i1 i2)(n:Off l2 z TO i1 i2)(st:ZSt k1 k2 z TI TO i1 i2 l1 l2 i s.heap)(a:IsSeq k1 s.heap l1 xs)(d:IsSeq k2 s.heap l2 ys)(m:xs[i]? =some x)(u:ys[i]? =some y)
  (hQ: ∀h',ZSt k1 k2 z TI TO i1 i2 l1 l2 (i+1) h'->IsPair h' ↑0 x y->↑22->Q (some (.ref ↑0)) {s with heap:=h'}):
  wpAny ↑6 A (pyNext (.ref z)) Q E s:=by
 rcases st with st|st
 .have hT:s.TypeIs (.ref z) "zip":=⟨_,st.z,rfl⟩
  have k:=ã st.z;obtain⟨p1,G,_⟩:=st.s1.there;refine st.s2.there.a λp2 F _=>?_
  refine wB (Ć (í hT Đ (ë Đ hT ņ
   (SW D r n st a d m u λh' h v j C q p=>wP (hQ h' (.inr ⟨⟨↑0,false,h,ú k,ú (ã G),ú (ã F),_,q⟩,p TI _ D.TIz D.TITO D.TIi1 D.TIi2 st.ti,j,C⟩) q p)) (Ľ _))))
 .refine st.z.d λT b k _=>?_;have hT:s.TypeIs (.ref z) "zip":=⟨_,k,rfl⟩
  refine wB (Ć (í hT Đ (ë Đ hT ņ
   (Dz D r n st a d m u λh' h v j=>wP (hQ h' (.inr h) v λc o B _ H I e=>j c o B H I e)) (Ľ _))))
def E5(p:↑70)(D:↑60)(r:Off l1 z TO i1 i2)(q:Off l2 z TO i1 i2)(st:ZSt k1 k2 z TI TO i1 i2 l1 l2 i s.heap)(h:IsSeq k1 s.heap l1 xs)(j:IsSeq k2 s.heap l2 ys)(a:xs[i]? =none\/ys[i]? =none)
  (hQ: ∀h',↑22->Q none {s with heap:=h'}):
  wpAny ↑6 A (pyNext (.ref z)) Q E s:=by
 rcases st with st|st
 .have hT:s.TypeIs (.ref z) "zip":=⟨_,st.z,rfl⟩
  refine wB (Ć (í hT Đ (ë Đ hT ņ
   (ZL p D r q st h j a λh' e k m=>?_) (Ľ _))))
  obtain⟨o,n,d⟩:=m;exact wB (Ě ⟨o,n,d⟩ ń (wP (hQ h' k)))
 .refine st.z.d λT b B _=>?_;have hT:s.TypeIs (.ref z) "zip":=⟨_,B,rfl⟩
  refine wB (Ć (í hT Đ (ë Đ hT ņ
   (Jk p D r q st h j a λh' e k m=>?_) (Ľ _))))
  obtain⟨o,n,d⟩:=m;exact wB (Ě ⟨o,n,d⟩ ń (wP (hQ h' λc o u _ v y e=>k c o u v y e)))
def ZSt.frame(st:ZSt k1 k2 z TI TO i1 i2 l1 l2 i h)(q:d≠z/\d≠TI/\d≠TO/\d≠i1/\d≠i2)(k: ∀b o,b≠d->h.get? b=some o->h'.get? b=some o)(p: ∃o,h'.get? d=some o):ZSt k1 k2 z TI TO i1 i2 l1 l2 i h':=by
 refine q.n λn c r m j=>?_;rcases st with⟨hz,hTI,⟨a,b,hTO⟩,h1,h2⟩|⟨⟨T,b,hz,Tz,T1,T2,oT,hT⟩,hTI,h1,h2⟩
 .exact .inl ⟨k _ _ n.symm hz,k _ _ c.symm hTI,(Yk a b (k _ _ r.symm hTO)),h1.move λo e=>k _ o m.symm e,h2.move λo e=>k _ o j.symm e⟩
 .refine .inr ⟨(XD T b (k _ _ n.symm hz) Tz T1 T2 ?_),k _ _ c.symm hTI,h1.move λo e=>k _ o m.symm e,h2.move λo e=>k _ o j.symm e⟩;by_cases e:T=d
  .rw[e];exact p
  .exact⟨oT,k _ _ e hT⟩
end
section
variable{K:Type}[DecidableEq K]{knd:KeyKind prog w K}{R:Result->œ->Prop}{TI TO:Addr}
theorem Rh(hh:A.in1.handled=none)(P:↑60)(o1:Off l1 z TO i1 i2)(o2:Off l2 z TO i1 i2)(hd:D≠z/\D≠TI/\D≠TO/\D≠i1/\D≠i2)(C:IsSeq k1 h₀ l1 xs)(M:IsSeq k2 h₀ l2 ys)(kvs)(hz:kvs.length<=sizeLine)
  (hkv: ∀(i:Nat) B ,kvs[i]? =some B-> ∃x,xs[i]? =some x/\ys[i]? =some B.2/\knd.is B.1 x=true) (hend:xs[kvs.length]? =none\/ys[kvs.length]? =none)
  (fz:h₀.get? z=none) (fTO:h₀.get? TO=none) (f1:h₀.get? i1=none) (f2:h₀.get? i2=none) (fD:h₀.get? D=none):
  ∀ k i  j  s ,kvs.length - i=k->i<=kvs.length->ZSt k1 k2 z TI TO i1 i2 l1 l2 i s.heap->s.heap.DictOf knd D (merged [] (kvs.take i))->(∀b o,h₀.get? b=some o->s.heap.get? b=some o)->
   (∀h' tk,(∀b o,h₀.get? b=some o->h'.get? b=some o)->h'.DictOf knd D (merged [] kvs)->R (.ok (.ret .none)) {s with heap:=h',toks:=tk})->
   codeAny ↑6 A (.builtin "dict.update.loop" ⟨[.ref D,.ref z,rawInt j,.none],[]⟩) R s:=by
 have K: ∀{b c:Addr}{o:Obj},h₀.get? b=some o->h₀.get? c=none->b≠c:=λe n q=>by rw[q,n]at e;cases e
 have old: ∀{h h':Heap},(∀b o,h₀.get? b=some o->h.get? b=some o)->(∀c o,c≠z->c≠TO->c≠i1->c≠i2->h.get? c=some o->h'.get? c=some o)-> ∀b o,h₀.get? b=some o->h'.get? b=some o:=λa c b o e=>c b o (K e fz) (K e fTO) (K e f1) (K e f2) (a b o e);refine hd.n λU d2 N W Z=>?_;have dk: ∀{h h':Heap}{m:List _},h.DictOf knd D m->(∀c o,c≠z->c≠TO->c≠i1->c≠i2->h.get? c=some o->h'.get? c=some o)->h'.DictOf knd D m:=λ⟨o,es,ep,Q,r⟩ c=>(XE o es ep (c D o U N W Z Q) r)
 intro k
 induction k with
 |zero=>
  intro i j s hk hi y O d hR;have S:i=kvs.length:=by lia
  subst S;refine Ģ PySem.F.entry_dict_update_loop ?_;rw[Around.under_plainId PySem.F.plain_dict_update_loop _];refine wB (E5 hh P o1 o2 y (C.move λo e=>d _ o e) (M.move λo e=>d _ o e) hend λh' p=>?_);rw[28];rw[take_length]at O;exact wP (hR h' s.toks (old d p) (dk O p))
 |succ k ih=>
  intro i j s hk hi y O d hR;have L:i<kvs.length:=by lia
  obtain⟨B,v⟩: ∃B,kvs[i]? =some B:=⟨_,gE L⟩
  refine(hkv i B v).b λx hx hy I=>?_;refine Ģ PySem.F.entry_dict_update_loop ?_;rw[Around.under_plainId PySem.F.plain_dict_update_loop _];show wpAny _ A.in1 _ _ _ s;refine wB (Rg P o1 o2 y (C.move λo e=>d _ o e) (M.move λo e=>d _ o e) hx hy λh' G E p=>?_);refine wB (ù ?_);refine wB (wpAny_tryCatch ?_);unfold Builtin.Dict.pairItems;refine wB (Ĥ ((Z3 _ E rfl)) ?_);rw[iP ↑11];refine wB ?_;rw[25];refine wB (wpAny_load E ?_);refine wP (wP ?_);rw[25];refine ù ?_;have Y:=merged_length_le [] (kvs.take i);have X:=List.length_take_le' i kvs;refine wpAny_dictSet_pairs I (dk O p) λh2 J H=>?_;have u: ∀b o,h₀.get? b=some o->h2.get? b=some o:=λb o e=>by rw[H.2 b (K e fD)];exact(old d p) b o e
  refine wP ⟨Ŏ PySem.F.plain_dict_update_loop _,ih _ _ _ #[0] L (G.frame ⟨U,d2,N,W,Z⟩ (λb o hb e=>by rw[H.2 b hb];exact e) ?_) ?_ u λh3 T k3 N=>hR h3 T k3 N⟩
  .refine(id J).g λo _ _ g=>g.elim λQ _=>?_;exact⟨o,Q⟩
  .rw[merged_take_succ _ _ _ _ v];exact J
def KZ(y:↑70)(P:↑60)(O:Off l1 z TO i1 i2)(M:Off l2 z TO i1 i2)(st:ZipSt u k2 z TI TO i1 i2 l1 l2 0 s.heap)(j: ∀b o,h₀.get? b=some o->s.heap.get? b=some o)
  (hl1:IsSeq u h₀ l1 xs) (hl2:IsSeq k2 h₀ l2 ys) (hz:kvs.length<=sizeLine) (hkv: ∀(i:Nat) kv ,kvs[i]? =some kv-> ∃x,xs[i]? =some x/\ys[i]? =some kv.2/\knd.is kv.1 x=true) (hend:xs[kvs.length]? =none\/ys[kvs.length]? =none)
  (fz:h₀.get? z=none) (fTO:h₀.get? TO=none) (f1:h₀.get? i1=none) (f2:h₀.get? i2=none)
  (h: ∀h' B,(∀b o,h₀.get? b=some o->h'.get? b=some o)->h'.DictOf knd ↑0 (merged [] kvs)->Q (.ref ↑0) {s with heap:=h',toks:=B}):
  wpAny ↑6 A (call (.type "dict") [.ref z]) Q E s:=by
 refine callType_codes (Q₁:=λq d=>q=.ref ↑0/\d={s with heap:=s.heap.push {cls:=.type "dict",data:=.dict #[]}}) PySem.F.kt_called_dict (PySem.F.kt_typeCall_dict_1 _) PySem.F.entry_dict_init (kt_code_dict_new _ ⟨rfl,rfl⟩) ?_;rintro q d ⟨rfl,rfl⟩;have c:(s.heap.push {cls:=.type "dict",data:=.dict #[]}).DictOf knd ↑0 []:=Heap.DictOf.new s.heap;have v: ∀b o,s.heap.get? b=some o->(s.heap.push {cls:=.type "dict",data:=.dict #[]}).get? b=some o:=λb o e=>hP0 _ e;refine⟨c.typeIs,PySem.F.args_dict_init_2 _ _,?_⟩;refine wB ?_;refine wB (ę c.typeIs ?_);refine wP ?_;show wpAny _ _ (Builtin.Dict.updateFrom "dict.__init__" ↑0 _ [] .none) _ _ _;refine wB (Ĥ (Z3 _ (v _ _ st.z) rfl) ?_);refine wB (getAttr?_miss_zip (v _ _ st.z) (am_miss_of_fast ↑50) ↑50 y (λS L u=>?_) ↑50);refine wB (Ğ ?_);obtain⟨m,p,⟨a,b,n⟩,H,D⟩:=st;have k:=λb o e=>u b o (v b o e);refine wB (wpAny_pyIter_zip (k _ _ m) ?_);refine V0 λT=>?_;have ne: ∀{b:Addr}{o:Obj},s.heap.get? b=some o->↑0≠b:=λe=>ú (ã e);refine H.there.a λp1 J _=>?_;refine D.there.a λp2 N _=>?_;refine T ?_;refine wP ⟨Ŏ PySem.F.plain_dict_update_loop _,Rh (by first |exact y|exact y) P O M ⟨ne m,ne p,ne n,ne J,ne N⟩ hl1 hl2 kvs hz hkv hend fz fTO f1 f2 ?_ _ 0 0 _ rfl (zero_le _) (.inl ⟨k _ _ m,k _ _ p,(Yk a b (k _ _ n)),H.move λo e=>k _ o e,D.move λo e=>k _ o e⟩) ?_ (λb o e=>k b o (j b o e)) λh' B K C=>⟨rfl,h h' B K C⟩⟩
 .cases r:h₀.get? ↑0 with
  |none=>rfl
  |some G=>exact absurd (ã (j _ _ r)) (ĵ _)
 .refine c.g λG es I g=>g.elim λr rest=>?_;exact XE G es I (u _ _ r) rest
end
section
variable{X:Cx}{α:B9}{H:Hp}{a b:Expr}{p1 p2 pos pos2:Pos}
def tDZ(X:Cx)(h:TA):TE:=λσ H Q=>h σ H λvs a=> ∃(e i:Bool)(b c:Addr)(us ws:List V)(ks:List Key),vs=[.ref b,.ref c]/\IA e X.K a b us/\IA i X.K a c ws/\us=ks.map kV/\X.calm=true/\ ∀d,a d=none->Q (.ref d) (xV a d (.dK (Ai (ks.zip ws))))
theorem Jl(X:Cx): ∀{ks:List Key}{is m}{ws},Vals (ks.map kV) is->Vals ws m->KV (ks.zip ws) (ks.zip m)/\ ∀(i:Nat) j ,(ks.zip m)[i]? =some j-> ∃x,is[i]? =some x/\m[i]? =some j.2/\(wO X.prog X.w).is j.1 x=true
 |[],_,_,_,_,_=>⟨.nil,λi j h=>by simp at h⟩
 |k::ks,_,_,_,.cons r t,.nil=>⟨.nil,λi j h=>by simp at h⟩
 |k::ks,_,_,_,.cons r t,.cons r' t'=>by
  obtain⟨q,u⟩:=Jl X t t';refine⟨.cons ⟨rfl,r'⟩ q,λi j h=>?_⟩
  cases i with
  |zero=>cases h;exact ZB _ rfl rfl (TU r)
  |succ i=>exact u i j h
theorem Ri(B:Gl X "dict")(hm:X.mg "dict"=none)(J:Gl X "zip")(F:X.mg "zip"=none)(ha:PA X [a,b] ta)(hs:starEach [a,b] X.env=[↑62,(false,eval b X.env)]:=by rfl)(u:starEach [b] X.env=[(false,eval b X.env)]:=by rfl)
  (hz:starEach [.Call (.Name "zip" p2) [a,b] [] pos2] X.env=[(false,eval (.Call (.Name "zip" p2) [a,b] [] pos2) X.env)]:=by rfl):
  PE X (.Call (.Name "dict" p1) [.Call (.Name "zip" p2) [a,b] [] pos2] [] pos) (tDZ X ta):=by
 rw[22];refine Call_ (pY I B hm QE (Ē ?_ (by rw[hz];rfl) (by rfl)));refine Calls.spliced_cons ?_;refine Call_ (pY I J F Hu (Ē (wG (ha pos2 pins s σ H _ I h) λus d ⟨vs,H1,I1,Y,W⟩=>?_) (by exact qq hs (qq u rfl)) (by rw[u];rfl)));obtain⟨k1,k2,l1,l2,aa,O,D,rfl,c1,P,rfl,S,q⟩:=W
 cases Y with
 |cons r rr=>
  cases rr with
  |cons r' rr=>
   cases rr;subst r;subst r';refine(I1.seqK c1).b λU M p1 z1=>?_;refine(I1.seqK P).b λj K p2 z2=>?_;refine SX p1 p2 λh' st m=>Calls.spliced_nil ?_;obtain⟨T,e2⟩:=Jl X M K;have L:=M.length;have n2:=K.length;rw[lM]at L
   have lt: ∀{k:Bool}{l:Addr}{y:B0},IsSeq k d.heap l y->l<d.heap.objs.size:=λ{k} {l} {y} p=>by
    cases k with
    |true=>obtain⟨o,e,_⟩:=(p:d.heap.IsList l y);exact ã e
    |false=>obtain⟨o,e,_⟩:=(p:d.heap.IsTuple l y);exact ã e
   have v: ∀{l:Addr},l<d.heap.objs.size->Off l (d.heap.objs.size+4) (d.heap.objs.size+3) d.heap.objs.size (d.heap.objs.size+1):=λ{l} h=>by exact⟨é (ç h (ě _ _)),é (ç h (ě _ _)),é h,é (ç h (ě _ _))⟩
   have A: ∀n,d.heap.objs.size<=n->d.heap.get? n=none:=λn hn=>by
    cases B:d.heap.get? n with
    |none=>rfl
    |some oo=>exact absurd (ã B) (Nat.not_lt.mpr hn)
   have c:d.heap.objs.size<=h'.objs.size:=by
    have:=ã st.z;have h4:=this
    lia
   refine KZ (knd:=wO X.prog X.w) (kvs:=D.zip j) (I1.ok.hd S) (apart_new _) (v (lt p1)) (v (lt p2)) st m p1 p2 (by rw[Ŀ];lia) (λi kv hi=>?_) ?_ (A _ (ě _ _)) (A _ (ě _ _)) (A _ (à _)) (A _ (ě _ _)) λh2 tk C G=>?_
   .refine(e2 i kv hi).b λx g1 g2 Z=>?_;exact ZB x (by simpa using g1) (by simpa using g2) Z
   .rw[Ŀ];by_cases E:D.length<=↑44
    .left;refine qq (min_eq_left E) (qq L ?_);simp
    .right;rw[Nat.min_eq_right #[0]];simp
   .have N:=Du (D.zip O);rw[Ŀ]at N;refine Z0 (.ref h'.objs.size) _ (I1.laid C c (show ObjOk X.prog X.w _ h2 _ (.dK (Ai _))from⟨by lia,Ŋ.mpr (Ne.symm (é (ç (PK I1) c))),_,Aj T .nil,G⟩)) rfl (q _ (I1.hok.fresh c))
def N8:List Er->Sto->R Er
 |[p,q],S=>match srcOf S p with
  |some a=>match srcOf S q with
   |some b=>if a.ds.all vB=true then .ok (.val (.loc S.length)) (S++[.dic (Tw (a.ds.zip b.ds))])else .no
   |none=>.no
  |none=>.no
 |_,_=>.no
theorem UF: ∀{ds}{us},ds.all vB=true->DenL X.K α H ds us-> ∃ks:List Key,us=ks.map kV/\ ∀{es}{ws},DenL X.K α H es ws->DenK X.K α H (ds.zip es) (ks.zip ws)
 |[],us,_,l=>⟨[],by rw[l.isnil];rfl,λ_=>.nil⟩
 |d::ds,us,h,l=>by
  refine l.uncons.c λv r g m j=>?_;subst g;rw[List.all_cons,aE]at h;obtain⟨b,a⟩:=î.mp h.1;refine(UF h.2 j).a λks k f=>?_;subst k;refine Z3 (b::ks) (by rw[XM a m];rfl) (λ{es} {ws} le=>?_)
  cases es with
  |nil=>rw[le.isnil];exact .nil
  |cons e es=>
   refine le.uncons.c λk n o c i=>?_;subst o;exact .cons (XJ a) c (f i)
def Rj(O:X.calm=true)(K:Gl X "dict")(hm:X.mg "dict"=none)(j:Gl X "zip")(h:X.mg "zip"=none)(n:GF X W [a,b] af)(hs:starEach [a,b] X.env=[↑62,(false,eval b X.env)]:=by rfl)(i:starEach [b] X.env=[(false,eval b X.env)]:=by rfl)
  (hz:starEach [.Call (.Name "zip" p2) [a,b] [] pos2] X.env=[(false,eval (.Call (.Name "zip" p2) [a,b] [] pos2) X.env)]:=by rfl):
  zI X W (.Call (.Name "dict" p1) [.Call (.Name "zip" p2) [a,b] [] pos2] [] pos) (λz S=>(af z S).bind N8):=by
 refine n.a λt n k=>?_;refine Z3 _ (Ri K hm j h n hs i hz) (λα z S σ H Q L sl q=>k α z S σ H _ L sl (q.bind λvs rs S1 B H1 e M d C c=>?_))
 replace c:=c.shift M
 unfold N8 at c;split at c
 .rename_i r1 r2;split at c
  .rename_i s1 P;split at c
   .rename_i J G;split at c
    .rename_i N;rw[31];refine(Tr C).c λu v g Z Y=>?_;subst g;refine(AC d P Z).c λl1 P1 u p1 U=>?_;subst u;refine(AC d G Y).c λl2 P2 V p2 E=>?_;subst V;refine(U.get _ _ _ p1).a λus I T=>?_;refine(E.get _ _ _ p2).a λs F A=>?_;refine(UF N T).a λy ac f=>?_;subst ac;refine bw ?_;refine WI s1.k J.k l1 l2 _ s y ⟨rfl,I,F,rfl,O,λp r=>?_⟩;have w:=d.newx (o:=.dK (Ai (y.zip s))) r;obtain⟨x,D⟩:=d.put (m:=.dic _) r (.inl ⟨_,zO,(EG (f A) .nil).ex0 ⟨⟨[p],rfl⟩,w.tup,w.frz⟩⟩);exact c _ _ _ x D (DenE.val (qD (by rw[<-d.len,æ (à _),sub_self];rfl)))
    .exact c.elim
   .exact c.elim
  .exact c.elim
 .exact c.elim
end
section
open PySem.SeqAt
open PySem.AutoSeq1 (wpAny_loadPart')
open PySem.MeetsSeq PySem.MeetsSeq2 PySem.MeetsSeq3
theorem Ea(l b)(items items2)(n n2)(dd dd2)(sl sl2)(kk)(k):
  ∀i:Nat,↑45 - i=k->i<=↑45->i<=items2.size->Meets (Builtin.«list.__eq__.loop» ⟨[.ref l,.ref b,rawInt i,rawInt 0],[]⟩)
   (λA R s=>s.heap.get? l=some {cls:=.type "list",dict:=dd,data:=.seq items n,slots:=sl}/\s.heap.get? b=some {cls:=.type "list",dict:=dd2,data:=.seq items2 n2,slots:=sl2}/\
    LexR A.in1 s (items.toList.drop i) (items2.toList.drop i) kk/\R (.ok (.ret (.bool kk))) s):=by
 induction k with
 |zero=>
  intro i z C D prog w A R s h;obtain⟨H,g,d,B,E⟩:=s;obtain⟨m,o,j,h⟩:=h
  wp_walk using Ā m,Ā o
  have e:items[((i:Nat):Int).toNat]? =none:=by simp;lia
  have u:items.toList.drop i=[]:=by simp;lia
  rw[u]at j
  have hv:kk=decide (↑45<items2.size):=by
   generalize G:items2.toList.drop i=zs at j;have c:=congrArg List.length G;rw[ą,ï]at c
   cases j with
   |nn=>simp only[ø]at c;exact(dF0 #[0]).symm
   |nc x xs=>simp only[lC]at c;exact(dT0 #[0]).symm
  rw[hv]at h;rw[e]
  cases a:items2[((i:Nat):Int).toNat]? with
  |none=>
   wp_walk using Ā m,Ā o
   exact h
  |some y=>
   wp_walk using Ā m,Ā o
   exact h
 |succ k ih=>
  intro i z C D prog w A R s h;obtain⟨H,g,d,B,E⟩:=s;obtain⟨m,o,j,h⟩:=h
  wp_walk using Ā m,Ā o
  have r:i<items.size:=by lia
  have e:items[((i:Nat):Int).toNat]? =some items[i]:=by simp[r]
  have u:items.toList.drop i=items[i]::items.toList.drop (i+1):=by rw[ĭ (by simpa using r)];simp
  have F:((i:Int)+1)=((i+1:Nat):Int):=by push_cast;rfl
  rw[u]at j;by_cases p:i<items2.size
  .have a:items2[((i:Nat):Int).toNat]? =some items2[i]:=by simp[p]
   have q:items2.toList.drop i=items2[i]::items2.toList.drop (i+1):=by rw[ĭ (by simpa using p)];simp
   rw[q]at j;rw[e,a]
   cases j with
   |eq he hr=>
    refine wB (he prog w _ _ ?_)
    wp_walk
    rw[F];exact⟨Ŏ plain_eq_loop _,Ģ entry_eq_loop (by rw[Around.under_plainId plain_eq_loop _];exact ih (i+1) #[0] #[0] #[0] prog w A R _ ⟨m,o,hr,h⟩)⟩
   |ne he hr=>
    refine wB (he prog w _ _ ?_);have v:=hr prog w
    wp_walk using Ā m,Ā o
    rw[e,a]
    wp_walk using v
    exact h
  .have a:items2[((i:Nat):Int).toNat]? =none:=by simp;lia
   have q:items2.toList.drop i=[]:=by simp;lia
   rw[q]at j;cases j;have hv:decide (↑45<items2.size)=false:=dF0 #[0];rw[<-hv]at h;rw[e,a]
   wp_walk using Ā m,Ā o
   exact h
def Eb(l b)(items items2)(n n2)(dd dd2)(sl sl2)(kk):
  Meets (Builtin.«list.__lt__» ⟨[.ref l,.ref b],[]⟩)
   (λA R s=>s.heap.get? l=some {cls:=.type "list",dict:=dd,data:=.seq items n,slots:=sl}/\s.heap.get? b=some {cls:=.type "list",dict:=dd2,data:=.seq items2 n2,slots:=sl2}/\
    LexR A.in1 s items.toList items2.toList kk/\R (.ok (.ret (.bool kk))) s):=by
 intro prog w A R s h;obtain⟨k,g,d,j,m⟩:=s;refine h.h λa c e h=>?_;have i:=AutoSeq1.sub_list_list
 wp_walk using Ā a,Ā c
 exact⟨Ŏ plain_eq_loop _,Ģ entry_eq_loop (by exact Ea l b items items2 n n2 dd dd2 sl sl2 kk _ 0 rfl (zero_le _) (zero_le _) prog w A R _ ⟨a,c,by simpa using e,h⟩)⟩
end
def LstAt(h:Heap)(a:Addr)(b:A0):Prop:= ∃o n,h.get? a=some o/\o.cls=.type "list"/\o.data=.seq b.toArray n
section
def Jm(p:keys≠[])(h: ∀x,x∈keys-> ∃a j,x=.ref a/\LstAt s.heap a j):
  wpAny M A (keyKind' keys.toArray) (λk q=>q=s/\k=oneType') E s:=by
 rw[keyKind'_eq];refine wB (û (Srt.wp_mapMA (g:=λ_=>(none:Option Ŕ)) λx c=>?_) (λr q m=>?_) λ_ _ e=>e)
 .obtain⟨a,j,rfl,o,n,d,i,v⟩:=h x c;refine wB (Ĥ ⟨o,d,i⟩ ?_);exact wP ⟨rfl,rfl⟩
 .obtain⟨rfl,rfl⟩:=m
  match keys,p,h with
  |x::l,p,h=>
   rw[30];refine wB (wB (û (Srt.wp_mapMA (g:=λ_=>Value.type "list") λx c=>?_) (λr q m=>?_) λ_ _ e=>e))
   .obtain⟨a,j,rfl,o,n,d,i,v⟩:=h x c;exact Ĥ ⟨o,d,i⟩ ⟨rfl,rfl⟩
   .obtain⟨rfl,rfl⟩:=m;have u:(List.map (λ_=>Value.type "list") (x::l)).toArray[0]? =some (Value.type "list"):=by simp
    have b:((List.map (λ_=>Value.type "list") (x::l)).toArray.all λx=>x==Value.type "list")=true:=by simp only[all_toArray,all_map,ÿ];intro _ _;rfl
    rw[u];dsimp only;rw[b];exact wP (wP ⟨rfl,rfl⟩)
theorem Ec(D:A.units+2<cLine)(p:LstAt s.heap l its)(B:LstAt s.heap b its2)(q:LexR A.in1 s its its2 k)(u:Q k s):
  wpAny ↑6 A (keyLt' oneType' (.ref l) (.ref b)) Q E s:=by
 refine V0 λI=>?_;refine p.c λg n j v C=>?_;obtain ⟨y,z,o,sl⟩:=g;refine B.c λG r e d i=>?_;obtain ⟨m,a,h,c⟩:=G;subst v C d i;refine I ?_;rw[keyLt'_oneType];refine wB (wpAny_cRoomFor #[0] ?_);refine wB (wpAny_callSpecialIfBound?_slot ⟨_,j,rfl⟩ PySem.F.slot_list_lt (call_meets PySem.F.slot_list_lt ⟨_,j,rfl⟩ PySem.F.entry_list_lt (PySem.F.args_list_lt_2 _ _) (Eb l b _ _ n r z a sl c k) ⟨j,e,q,?_⟩));exact ć u
end
def KX(l:Bool)(K:U0)(α:B9)(H:Hp)(d:MV)(v:V):Prop:=if l=true then∃es a vs,d=.tup es/\v=.ref a/\H a=some (.lst vs)/\a∉α/\DenL K α H es vs else Den K α H d v
inductive KXL(l:Bool)(K:U0)(α:B9)(H:Hp):List MV->List V->Prop
 |nil:KXL l K α H [] []
 |cons {d v ds vs}:KX l K α H d v->KXL l K α H ds vs->KXL l K α H (d::ds) (v::vs)
noncomputable def Ed(l:Bool)(d:MV):Er:=if l=true then(match d with |.tup es=>.new es|d=>.val d)else .val d
def Md(l b:Bool)(d:MV):Prop:=if l=true then∃es,d=.tup es else KindD b d
abbrev Am(l b:Bool):SortKind:=if l=true then oneType' else Il b
section
variable{K:U0}
def KX.ext(x:Ext α H α H')(h:KX l K α H d v):KX l K α H' d v:=by
 cases l with
 |true=>refine h.i λes a vs c b h n l=>?_;exact XV es a vs c b (x.keep a _ h n) n (DenL.ext x l)
 |false=>exact Den.ext x h
theorem KXL.ext(x:Ext α H α H'): ∀{ds}{vs},KXL l K α H ds vs->KXL l K α H' ds vs
 |_,_,.nil=>.nil
 |_,_,.cons h t=>.cons (h.ext x) (KXL.ext x t)
theorem KXL.length: ∀{ds}{vs},KXL l K α H ds vs->↑10=↑12
 |_,_,.nil=>rfl
 |_,_,.cons h t=>by rw[lC,lC,KXL.length t]
theorem KXL.append: ∀{ds es}{vs us},KXL l K α H ds vs->KXL l K α H es us->KXL l K α H (ds++es) (vs++us)
 |_,_,_,_,.nil,h=>h
 |_,_,_,_,.cons a t,h=>.cons a (KXL.append t h)
theorem KXL.at: ∀{ds}{vs}{i:Nat}{d},KXL l K α H ds vs->ds[i]? =some d-> ∃v,vs[i]? =some v/\KX l K α H d v
 |_,_,0,_,.cons h t,e=>by cases e;exact Z3 _ rfl h
 |_,_,i+1,_,.cons h t,e=>KXL.at (i:=i) t e
theorem KXL.get: ∀{ds}{vs}{i:Nat}{v},KXL l K α H ds vs->vs[i]? =some v-> ∃d,ds[i]? =some d/\KX l K α H d v
 |_,_,0,_,.cons h t,e=>by cases e;exact⟨_,rfl,h⟩
 |_,_,i+1,_,.cons h t,e=>KXL.get (i:=i) t e
def KXL.den: ∀{ds}{vs},KXL false K α H ds vs->DenL K α H ds vs
 |_,_,.nil=>zZ
 |_,_,.cons h t=>zQ h t.den
end
section
variable{X:Cx}{l:Bool}{α:B9}{S:Sto}{H:Hp}{pins:L1}{σ:St}
structure LpX(l:Bool)(X:Cx)(pins:L1)(σ:St)(α:B9)(S:Sto)(H:Hp)(L KS:Addr)(e1:Nat)(kds:X0)(m:Nat)(s':œ):Prop where
 go: ∃(H':Hp)(ks:A0)(n:Nat)(kvs:List V),Inv X pins σ H' s'/\Ext α H α H'/\Wd X.g α S H'/\s'.heap.get? L=some (seqObj "list" #[] e1)/\s'.heap.get? KS=some (seqObj "list" ks.toArray n)/\H' L=none/\H' KS=none/\
  Vals kvs ks/\KXL l X.K α H' (kds.take m) kvs
theorem Jn(F:FnOk X.prog X.w X.K X.mg X.base GP k fa fd ps (VW X.g 1 Fd))(hr:Room (k+2) X.A)(c:Binds X.K fd ps [])(O:L≠KS)
  (fL: ∀H',H' L=none->pZ X pins H' L) (fK: ∀H',H' KS=none->pZ X pins H' KS) (dl:DenL X.K α H ds xs) (rv:Vals xs its) (hlen:↑12<128) (hkl:kds.length=↑12)
  (hk: ∀(m:Nat) d kd,ds[m]? =some d->kds[m]? =some kd->zE 1 Fd [.val d] S=.ok (Ed l kd) S) (hkind: ∀d,d∈kds->Md l b d)   (hx:its[m]? =some x)   
  (h:LpX l X pins σ α S H L KS e1 kds m s) (hp: ∀s',LpX l X pins σ α S H L KS e1 kds (m+1) s'->P (.yield ⟨⟩) s'):wpAny ↑4 X.A.in1.in1 (Srt.kStep L fa A' (.ref KS) x) P E' s:=by
 rw[31];refine h.go.j λH' C n D V=>V.r λI xt wd Z Y nL nK vk dk=>?_;have hm:m<xs.length:=by rw[rv.length];exact(gS.mp hx).1
 obtain⟨U,p⟩: ∃U,xs[m]? =some U:=⟨xs[m],gE hm⟩
 refine(rv.get p).a λx' r rx=>?_;rw[hx]at r;refine bw ?_;cases r;refine(dl.get p).a λd hd dd=>?_;obtain⟨kd,i⟩: ∃kd,kds[m]? =some kd:=⟨kds[m]'(by rw[hkl, <-dl.length];exact hm),gE _⟩
 have T:=I.pinned (λb c=>by
  rcases mC.mp c with rfl|c
  .exact fL _ nL
  .rw[mS.mp c];exact fK _ nK) (λb c=>by
  rcases mC.mp c with rfl|c
  .exact(Z3 _ Z (λv z=>by cases z))
  .rw[mS.mp c];exact Z3 _ Y (λv z=>by cases z))
 have pl:vW [L,KS] s.heap=[(L,seqObj "list" #[] e1),(KS,seqObj "list" C.toArray n)]:=by unfold vW;simp[Z,Y]
 rw[pl]at T;refine wB (Ć (û (Ql (Q:=λu j=> ∃a,Ext α H' a j/\Wd X.g a S j/\KX l X.K a j kd u) F hr c T (.cons rx .nil) ?_) (λu s2 h2=>?_) λ_ _ e=>e))
 .refine LX (W:=W0) (Ext.refl α H') wd (.cons (DenE.val (dd.ext xt)) (λds b e=>by cases e) .nil) ?_;rw[(hk m d kd hd i)];exact λu a j q y M=>(ZB a q y (by
   have k:=(hkind kd (è i))
   have h:=M.1
   cases l with
   |true=>obtain⟨es,rfl⟩:=k;refine h.k λb vs e h n l=>?_;exact XV es b vs rfl e h n l
   |false=>exact h))
 .refine V0 λbx=>?_;obtain⟨v,j,E,G,a,q,y,M⟩:=h2;have J:=A6 wd q y;subst J;have pL:=E.pin (L,seqObj "list" #[] e1) (by simp);have B:=E.pin (KS,seqObj "list" C.toArray n) (by simp);have kl:C.length<128:=by rw[<-vk.length,dk.length,lT];lia
  refine bx ?_;refine wB (listUpdate_at B.1 rfl ?_ (by rw[sA0];have:=ĝ;lia) (by rw[ġ,sA0];have:=ĝ;lia));obtain⟨n',N⟩: ∃n',(s2.heap.update KS (Obj.mapSeq λv=>v.push u)).get? KS=some _:=⟨_,by have:=get?_update_seq B.1 (λv=>v.push u);rw[List.push_toArray]at this;exact this⟩
  refine wP (hp _ ⟨j,C++[u],n',D++[v],?_,xt.trans q,y,?_,N,pL.2.1,B.2.1,vk.append (.cons G .nil),?_⟩)
  .refine(fK j B.2.1).f λf0 f1 f2 f3 f4 f5=>?_;exact(E.unpinned).turned (λb o c e=>(þ _ _ (Ne.symm c)).trans e) f0 f1 f3 f4 f5
  .exact(þ _ _ (Ne.symm O)).trans pL.1
  .rw[List.take_succ,i];exact(KXL.ext q dk).append (.cons M .nil)
def Jo(h:cN (.tup es)=true):BW es=true:=by unfold cN at h;exact h
def E7(I:↑2)(p:cN d=true)(b:cN d'=true)(h:KX l X.K α H d v)(h':KX l X.K α H d' v):d=d':=by
 cases l with
 |true=>
  refine h.i λes a vs g q j _ k=>?_;subst g;subst q;refine h'.i λn o i r e c _ m=>?_;subst r;cases e;rw[j]at c;cases c;rw[IK I (Jo p) (Jo b) k m]
 |false=>exact Ab I p b h h'
def XS(I:↑2)(h:H a=some (.lst vs)): ∃j,Vals vs j/\LstAt s.heap a j:=by refine(I.list (.of h:SqL X.K H a vs)).b λj r g z=>?_;refine g.k λo n d c e b=>?_;exact⟨j,r,o,n,d,c,b⟩
theorem Rk(I:↑2)(D:↑27)(hu:A.units+64<cLine){k:Bool}(kd:Md l b d)(kf:Md l b f)(J:KX l X.K α H d x)(Y:KX l X.K α H f y)(Z:RelV x u)(N:RelV y v)
  (h:GQ S zK d f=some k) (prog) (w) (E) (Q) (hq:Q k s):wpAny ↑6 A (keyLt' (Am l b) u v) Q E s:=by
 cases l with
 |false=>exact (by
   cases kd with
   |t es r=>
    cases kf with
    |t L r'=>
     refine(AM I J Z).i λa1 T o V z p C _=>?_;subst V;refine(AM I Y N).i λa2 P i ac B m G _=>?_;subst ac;have h':=h
     refine Srt.wp_keyLtT C G (Z9 (ZH (λd f x y u v k a b c j e=>DY I D 39 A d f x y u v k #[0] a b c j e)
      (λd f x y u v k a b c j e=>OS I D 39 A d f x y u v k #[0] a b c j e) z B p m h')) hq
   |e=>
    cases kf;refine(AM I J Z).i λa1 T o ad z p C p1=>?_;subst ad;refine(AM I Y N).i λa2 P i ap B m G p2=>?_;subst ap;cases z.isnil;cases B.isnil;cases p;cases m;have hk:k=false:=by have h':_=some k:=h;cases h';rfl
    subst hk;show wpAny _ A (keyLt' oneType' _ _) Q E s;refine V0 λbw=>?_;obtain⟨⟨ah,dd,ag,sl⟩,W,hc,n,hd⟩:=id p1;obtain⟨⟨af,aa,ae,M⟩,ab,O,n2,U⟩:=id p2;subst hc hd O U;refine bw ?_;refine wB (wpAny_cRoomFor #[0] ?_);refine wB (wpAny_callSpecialIfBound?_slot ⟨_,W,rfl⟩ PySem.F.slot_tuple_lt (call_meets PySem.F.slot_tuple_lt ⟨_,W,rfl⟩ PySem.F.entry_tuple_lt (PySem.F.args_tuple_lt_2 _ _) (HY a1 a2 _ _ n n2 dd aa sl M false) ⟨W,ab,.nn,?_⟩));exact ć hq)
 |true=>
  refine V0 λbx=>?_;refine J.i λes a vs be bi g1 _ z=>?_;subst be;subst bi;refine Y.i λL a' aj bm bn g2 _ B=>?_;subst bm;subst bn;subst Z;subst N;refine(XS I g1).a λai p C=>?_;refine(XS I g2).a λi m G=>?_;have q:=by show A.units+1+39<cLine;lia
  refine bx ?_;exact Ec #[0] C G (ZH (λd f x y u v k a b c j e=>DY I D 39 A.in1 d f x y u v k q a b c j e) (λd f x y u v k a b c j e=>OS I D 39 A.in1 d f x y u v k q a b c j e) z B p m h) hq
def XT(l:Bool)(K:U0)(α:B9)(H:Hp)(a:X0)(u:Ŕ):MV:=
 open Classical in if h: ∃d v,d∈a/\KX l K α H d v/\RelV v u then Classical.choose h else a.headD .non
def N9(l:Bool)(K:U0)(α:B9)(H:Hp)(S:Sto)(a:X0)(p q:Keyed):Bool:=(GQ S zK (XT l K α H a p.1) (XT l K α H a q.1)).getD false
def jY{K:U0}(a:kds≠[])(u):XT l K α H kds u∈kds:=by
 unfold XT;split
 .rename_i h;refine(ā h).a λv b _=>?_;exact b
 .match kds,a with
  |x::l,_=>exact mF0
def EK{K:U0}(h: ∃d v,d∈kds/\KX l K α H d v/\RelV v u): ∃v,KX l K α H (XT l K α H kds u) v/\RelV v u:=by unfold XT;rw[dif_pos h];refine(ā h).b λv _ a b=>?_;exact Z3 v a b
def An(I:↑2)(c: ∀d,d∈kds->cN d=true)(n:KXL l X.K α H kds kvs)(p:Vals kvs ks){i:Nat}(m:ks[i]? =some u)(j:kds[i]? =some a):
  XT l X.K α H kds u=a:=by
 refine(n.at j).a λv hv h=>?_;refine(p.get hv).a λq b r=>?_;rw[m]at b;cases b;have e:=è j;refine(EK (Z0 a v e h r)).a λw k o=>?_;rw[o.inj r]at k;exact E7 I (c _ (jY (λz=>by rw[z]at e;cases e) u)) (c a e) k h
theorem zAN(I:↑2)(wd:↑27)(hu:A.units+64<cLine)(hne:kds≠[])(hkind: ∀d,d∈kds->Md l b d)(ho:OrdD S kds):
  Srt.Cmp ↑4 A E' s (Am l b) (λp=> ∃d v,d∈kds/\KX l X.K α H d v/\RelV v p.1) (N9 l X.K α H S kds) where
 go x y hx hy st hk Q hq:=by
  refine(EK hx).a λv1 d1 r1=>?_;refine(EK hy).a λv2 d2 r2=>?_;obtain⟨t,ht⟩:=ho.any _ (jY hne x.1) _ (jY hne y.1);have e:N9 l X.K α H S kds x y=t:=by unfold N9;rw[ht];rfl
  rw[e]at hq;exact Srt.wp_lt hk (λE Q hq=>Rk I wd hu (hkind _ (jY hne x.1)) (hkind _ (jY hne y.1)) d1 d2 r1 r2 ht X.prog X.w E Q hq) hq
 tr x y z h1 h2:=by unfold N9 at h1 h2 ⊢;have mx:=jY (l:=l) (K:=X.K) (α:=α) (H:=H) hne x.1;have my:=jY (l:=l) (K:=X.K) (α:=α) (H:=H) hne y.1;have mz:=jY (l:=l) (K:=X.K) (α:=α) (H:=H) hne z.1;obtain⟨t1,e1⟩:=ho.any _ my _ mx;obtain⟨t2,e2⟩:=ho.any _ mz _ my;rw[e1]at h1;rw[e2]at h2;subst h1 h2;rw[ho.tr _ mx _ my _ mz e1 e2];rfl
 as x y h:=by unfold N9 at h ⊢;have mx:=jY (l:=l) (K:=X.K) (α:=α) (H:=H) hne x.1;have my:=jY (l:=l) (K:=X.K) (α:=α) (H:=H) hne y.1;obtain⟨t1,e1⟩:=ho.any _ mx _ my;rw[e1]at h;subst h;rw[ho.as _ mx _ my e1];rfl
theorem Jp(F:FnOk X.prog X.w X.K X.mg X.base GP k fa fd ps (VW X.g 1 Fd))(hr:Room (k+2) X.A)(Y:Binds X.K fd ps [])(I:↑2)(wd:↑27)(hl:SqL X.K H la xs)(dl:DenL X.K α H ds xs)
  (hlen:↑12<128) (hkl:kds.length=↑12) (hk: ∀(m:Nat) d kd,ds[m]? =some d->kds[m]? =some kd->zE 1 Fd [.val d] S=.ok (Ed l kd) S) (hpu: ∀d,d∈kds->cN d=true) (hkind: ∀d,d∈kds->Md l b d) (hord:OrdD S kds) 
  (hQ: ∀(B:Db) H'  p  ys ,B.Perm (List.range ↑12)->B.Pairwise (λi j=> ∀a c,kds[i]? =some a->kds[j]? =some c->GQ S zK c a=some false)->Ext α H α H'->Wd X.g α S H'->H' p=none->H p=none->
   DenL X.K α H' (B.filterMap (ds[·]?)) ys->Q (.ref p) (xV H' p (.lst ys))):wpAny ↑4 X.A (call (.builtin "sorted") [.ref la] [("key",.ref fa)]) (EP X pins σ Q) X.xe s:=by
 refine(I.list hl).b λq rv ac _=>?_;refine ac.k λo n0 e0 aq _ ai=>?_;have aa:q.length=ds.length:=by rw[<-rv.length,dl.length]
 have az:=ĝ;refine call_function_entry_kw kind_sorted plain_sorted entry_sorted ((by unfold argsOk;kernel_rfl)) ?_;unfold Builtin.«sorted»;rw[28];refine wB (collect_list (⟨o,e0,aq,n0,ai⟩) ?_ #[0]);refine wB (wpAny_newList ?_);generalize ab:(s.heap.push (seqObj "list" #[] 0)).update s.heap.objs.size _=y;have aw:y.objs.size=↑0+1:=by rw[<-ab,Heap.size_update,size_push']
 have k1: ∀b u,s.heap.get? b=some u->y.get? b=some u:=λb u e=>by rw[<-ab,þ _ _ (ú (ã e))];exact hP0 _ e
 have T:(y.push _).get? y.objs.size=some (seqObj "list" q.toArray 0):=á _ rfl;show wpAny _ _ _ _ _ {s with heap:=y.push (seqObj "list" q.toArray 0)};dsimp only;generalize hL:y.objs.size=L at *;have sL:↑0<=L:=by lia
 refine wB (ù (wpAny_call_entry_kw slot_list_sort (Z3 _ T rfl) entry_list_sort (Srt.sort_keyed T #[0] λe1 af=>?_) ((by unfold argsOk;kernel_rfl))));dsimp only at af ⊢;generalize U:y.push _=M at *;have a0:M.objs.size=L+1:=by rw[<-U,size_push',hL]
 generalize ak:M.objs.size+1=KS;have sK:↑0<=KS:=by lia
 have ag:L≠KS:=by lia
 have fL: ∀H',H' L=none->pZ X pins H' L:=λH' hn=>I.fpOk sL hn;have fK: ∀H',H' KS=none->pZ X pins H' KS:=λH' hn=>I.fpOk sK hn;have k3: ∀b u,s.heap.get? b=some u->(((M.update L (Obj.mapSeq λ_=>#[])).push (seqObj "tuple" q.toArray 0)).push (seqObj "list" #[] 0)).get? b=some u:=λb u e=>by refine hP0 _ (hP0 _ ?_);rw[þ _ _ (ú (ç (ã e) sL)), <-U];exact hP0 _ (k1 b u e)
 have base:LpX l X pins σ α S H L KS e1 kds 0 {s with heap:=((M.update L (Obj.mapSeq λ_=>#[])).push (seqObj "tuple" q.toArray 0)).push (seqObj "list" #[] 0)}:=by
  refine⟨H,[],0,[],(I.kept (t':=s.toks) k3),Ext.refl α H,wd,hP0 _ (hP0 _ af),?_,I.hok.fresh sL,I.hok.fresh sK,.nil,by rw[List.take_zero];exact .nil⟩;rw[<-ak];have e:M.objs.size+1=((M.update L (Obj.mapSeq λ_=>#[])).push (seqObj "tuple" q.toArray 0)).objs.size:=by rw[size_push',Heap.size_update]
  rw[e];exact á _ rfl
 refine û (wpAny_forIn_list (α:=Ŕ) (β:=PUnit) _ (λrest _ s'=> ∃m,rest=q.drop m/\LpX l X pins σ α S H L KS e1 kds m s') (λ_ s'=>LpX l X pins σ α S H L KS e1 kds q.length s') ?_ ?_ q PUnit.unit (Z3 0 rfl base)) (λ_ N D av=>?_) λ_ _ e=>e
 .rintro x rest _ s' ⟨m,e,D⟩;have hx:q[m]? =some x:=by have:=congrArg (·[0]?) e;simp only[List.getElem?_cons_zero,getElem?_drop,Nat.add_zero]at this;exact this.symm
  refine Jn F hr Y ag fL fK dl rv hlen hkl hk hkind hx D λay aj=>⟨m+1,?_,aj⟩
  have:=congrArg List.tail e;rw[List.tail_cons,List.tail_drop]at this;exact this
 .rintro _ s' ⟨m,e,D⟩;have hm:q.length<=m:=List.drop_eq_nil_iff.mp e.symm;refine D.go.j λH' J n E V=>V.r λa1 a2 a3 a4 a5 a6 a7 a8 a9=>?_;exact⟨H',J,n,E,a1,a2,a3,a4,a5,a6,a7,a8,by rw[ĉ #[0]]at a9 ⊢; exact a9⟩
 .refine D.go.j λH' J n E b0=>b0.r λP xt W gL gK nL nK G O=>?_;rw[ĉ #[0]]at O;have C:J.length=ds.length:=by rw[<-G.length,O.length,hkl]
  refine⟨J,n,Am l b,(λp=> ∃d v,d∈kds/\KX l X.K α H' d v/\RelV v p.1),N9 l X.K α H' S kds,gL,gK,by lia,λax=>?_,λout op os=>?_⟩
  .have ne:kds≠[]:=λz=>by rw[z]at hkl;simp at hkl;lia
   refine⟨(by
     cases l with
     |false=>exact A7 P ne hkind O.den G
     |true=>
      have ne:J≠[]:=λz=>by have y:=G.length;have M:=O.length;rw[z]at y;exact ne (List.length_eq_zero_iff.mp (by rw[<-M,y];rfl))
      refine Jm ne λu hu=>?_;obtain⟨i,hi⟩:=getElem?_of_mem hu;have hl:i<E.length:=by rw[G.length];exact(gS.mp hi).1
      refine(G.get (gE hl)).a λu' y r=>?_;rw[hi]at y;cases y;refine V0 λbw=>?_;obtain⟨d,M,es,a,vs,rfl,e,h3,_,_⟩:=O.get (gE hl);rw[e]at r;refine bw ?_;cases r;refine(XS P h3).a λq _ t=>?_;exact YS a q rfl t),zAN P W (by have:=hr.un;show X.A.units+1+1+64<cLine;lia) ne hkind hord,λp hp=>?_⟩;refine V0 λbx=>?_;obtain⟨i,hi⟩:=getElem?_of_mem ((of_mem_zip hp).1);have ae:i<E.length:=by rw[G.length];exact(gS.mp hi).1
   refine(G.get (gE ae)).a λu' Z r=>?_;rw[hi]at Z;refine bx ?_;cases Z;refine(O.get (gE ae)).a λd ao au=>?_;exact Z0 d _ (è ao) au r
  .refine(ME op.symm (List.range ↑12) (Dg C aa)).a λB ip ie=>?_;have ib: ∀i,i∈B->i<ds.length:=λi hi=>ő.mp (ip.mem_iff.mp hi);have eo:out.map (·.2)=B.filterMap (q[·]?):=by rw[<-ie,ħ];exact IL λi hi=>by rw[aa];exact ib i hi
   have po:B.Pairwise (λi j=> ∀a c,kds[i]? =some a->kds[j]? =some c->GQ S zK c a=some false):=by rw[<-ie,pairwise_map]at os;refine List.Pairwise.imp_of_mem (λ{i j} hi hj h a c ha hc=>?_) os;have ui:J[i]? =some (J[i]'(by rw[C];exact ib i hi)):=gE _;have uj:J[j]? =some (J[j]'(by rw[C];exact ib j hj)):=gE _;have h':(GQ S zK _ _).getD false=false:=h;rw[ui,uj]at h';simp only[Option.getD_some]at h';rw[An P hpu O G ui ha,An P hpu O G uj hc]at h';obtain⟨t,ht⟩:=hord.any c (è hc) a (è ha);rw[ht]at h';have h':t=false:=h';rw[ht,h']
   refine⟨_,rfl,wP ⟨_,rfl,.ref L,xV H' L _,?_,rfl,hQ B H' L _ ip po xt W nL (I.hok.fresh sL) ((dl.ext xt).pick B)⟩⟩;have I5:Inv X pins σ H' {N with heap:=N.heap.update KS (Obj.mapSeq λ_=>#[])}:=by refine(fK H' nK).f λf0 f1 f2 f3 f4 f5=>?_;exact P.turned (t':=N.toks) (λb o Y e=>(þ _ _ (Ne.symm Y)).trans e) f0 f1 f3 f4 f5
   have ah:(N.heap.update KS (Obj.mapSeq λ_=>#[])).get? L=some (seqObj "list" #[] e1):=(þ _ _ (Ne.symm ag)).trans gL;refine(fL H' nL).f λf0 f1 f2 f3 f4 f5=>?_
   have I6:Inv X pins σ H' {N with heap:=(N.heap.update KS (Obj.mapSeq λ_=>#[])).update L (Obj.mapSeq λ_=>(out.map (·.2)).toArray)}:=
    I5.turned (t':=N.toks) (λb o Y e=>(þ _ _ (Ne.symm Y)).trans e) f0 f1 f3 f4 f5
   obtain⟨n',ar⟩: ∃n',((N.heap.update KS (Obj.mapSeq λ_=>#[])).update L (Obj.mapSeq λ_=>(out.map (·.2)).toArray)).get? L=some _:=⟨_,by have:=get?_update_seq ah (λ_=>(out.map (·.2)).toArray);rw[eo]at this ⊢;exact this⟩
   refine Df I6 (fL H' nL) (ô I.sz sL) ar (Vals.pick rv B) ?_
   .have:=Ĳ (xs[·]?) B;have h3:=ip.length_eq;rw[Ħ]at h3
    lia
end
structure SrtOkX(l:Bool)(Fd:List MV->Sto->R Er)(S:Sto)(ds kds:X0)(b:Bool):Prop where
 len:↑12<128
 kl:kds.length=↑12
 call: ∀(m:Nat) d kd,ds[m]? =some d->kds[m]? =some kd->zE 1 Fd [.val d] S=.ok (Ed l kd) S
 pu: ∀d,d∈kds->cN d=true
 kind: ∀d,d∈kds->Md l b d
 ord:OrdD S kds
open Classical in
def FM(l:Bool)(Fd:List MV->Sto->R Er)(rs:List Er)(S:Sto):R Er:=match rs with
 |[p]=>match jO S p with
  |some ds=>if h: ∃r, ∃a b,SrtOkX l Fd S ds a b/\ ∀c,Ac S ds a c->c=r then .ok (.new (Classical.choose h)) S else .no
  |none=>.no
 |_=>.no
def Rl(e:jO S p=some ds)(ok:SrtOkX l Fd S ds j b)(u: ∀q,Ac S ds j q->q=r)(i:Ac S ds j r)(d: ∀m z,SrtOkX l Fd S ds m z->m=j):
  FM l Fd [p] S=.ok (.new r) S:=by
 unfold FM;dsimp only;rw[e];dsimp only;have h: ∃r, ∃j b,SrtOkX l Fd S ds j b/\ ∀q,Ac S ds j q->q=r:=(XE r j b ok u)
 rw[dif_pos h];refine(ā h).d λm z a c=>?_;rw[d m z a]at c;rw[<-c r i]
section
variable{pos:Pos}
def XU(l){p L Z:Pos}(F:FnOk X.prog X.w X.K X.mg X.base GP k fa fd ps (VW X.g 1 Fd))(hr:Room (k+2) X.A)(Y:Gl X "sorted")(hm:X.mg "sorted"=none)
  (hgk:Gl X x) (hmk:X.mg x=some (.ref fa)) (hb:Binds X.K fd ps []) (J:GF X W [a] af) (hd:↑42=false:=by decide)
  (he:backTo pos (starEach [a] X.env)=↑62::backTo pos (starEach [] X.env):=by rfl) (hpl:(backTo pos (starEach [a] X.env)).any (·.1)=false:=by rfl):
  zI X W (.Call (.Name "sorted" p) [a] [⟨some "key",.Name x L,Z⟩] pos) (λG S=>(af G S).bind λrs z=>FM l Fd rs z):=by
 refine J.a λt J kk=>?_
 refine⟨λσ H Q=>t σ H λvs o=> ∃α S la xs n d b,vs=[.ref la]/\Wd X.g α S o/\SqL X.K o la xs/\DenL X.K α o n xs/\SrtOkX l Fd S n d b/\
   ∀(m:Db)(H':Hp)(p:Addr)(ys:List V),m.Perm (List.range n.length)->m.Pairwise (λi j=> ∀a c,d[i]? =some a->d[j]? =some c->GQ S zK c a=some false)->Ext α o α H'->Wd X.g α S H'->H' p=none->o p=none->
   DenL X.K α H' (m.filterMap (n[·]?)) ys->Q (.ref p) (xV H' p (.lst ys)),?_,λα G S σ H Q B sl q=>kk α G S σ H _ B sl (q.bind λvs rs z r o e1 x1 C M e=>?_)⟩
 .rw[22];refine wpAny_Call_Name_kw (pY I Y hm Dh ?_);refine callWith_kw (wG (J pos pins s σ H _ I h) λus s1 ⟨vs,o,I1,N,e⟩=>?_) he hpl;refine e.w λα S la xs n d b a0=>a0.f λac B E y ok P=>?_;subst ac;refine N.one.a λu bu U=>?_;subst bu;cases U;refine kws_cons (NT I1 hgk hmk (kws_nil ?_) hd);exact Jp F hr hb I1 B E y ok.len ok.kl ok.call ok.pu ok.kind ok.ord P
 .replace e:=e.shift x1
  unfold FM at e;split at e
  .rename_i p0;split at e
   .rename_i n el;split at e
    .rename_i h;refine(LW M).a λv ad dv=>?_;subst ad;refine(sM rfl C el dv).c λla xs ap sq y=>?_;subst ap;refine(ā h).d λd b ok u=>?_;refine WI r z la xs n d b ⟨rfl,C,sq,y,ok,λm H' pp ys i1 O i3 i4 T i6 D=>?_⟩;rw[(u _ (ZB m i1 O rfl))]at D;exact(e.shift i3).newl i4 T D
    .exact e.elim
   .exact e.elim
  .exact e.elim
def FN(l){p d e:Pos}(G:Dr X.prog X.w X.K X.mg X.base x k 1 ps Fd)(h:Room (k+2) X.A)(c:Gl X "sorted")(hm:X.mg "sorted"=none)
  (hgk:Gl X x) (ha:GF X W [a] af) (hd:↑42=false:=by decide)
  (he:backTo pos (starEach [a] X.env)=↑62::backTo pos (starEach [] X.env):=by rfl) (hpl:(backTo pos (starEach [a] X.env)).any (·.1)=false:=by rfl):
  zI X W (.Call (.Name "sorted" p) [a] [⟨some "key",.Name x d,e⟩] pos) (λq S=>(af q S).bind λrs j=>FM l Fd rs j):=
 let ⟨_,_,F,m,_,b⟩:=G.ex;XU l F h c hm hgk m b ha hd he hpl
end
def KAt(d:Addr)(us:A0)(a:Nat)(h:Heap):Prop:= ∃o es,h.get? d=some o/\o.ExactDict/\o.data=.dict es a/\es.toList.map (·.key)=us
def KAt.at(x:KAt d us ep h)(m: ∀o,h.get? d=some o->h'.get? d=some o):KAt d us ep h':=let ⟨o,es,a,r⟩:=x;(YS o es (m o a) r)
theorem KAt.size(x:KAt d us ep h): ∃o es,h.get? d=some o/\o.ExactDict/\o.data=.dict es ep/\es.size=↑66/\ ∀i (hi:i<es.size),us[i]? =some es[i].key:=by refine x.k λo es c b a e=>?_;refine XD o es c b a (by rw[<-e,lM,ï]) (λi hi=>?_);rw[<-e,ó,ð,Ċ hi];rfl
section
variable{E:VP}{s:œ}
def Ee(hs:(d==sysModules)=false)(hm:KAt d us ep s.heap)
  (hQ:Q (.ref ↑0) {s with heap:=s.heap.push {cls:=.type "dict_keyiterator",data:=.fields #[.ref d,.int 0 0,.int ↑66 0,.int ep 0]}}):wpAny (model P w) A (pyIter (.ref d)) Q E s:=by
 refine hm.size.l λo es c e a b _=>?_;have hT:s.TypeIs (.ref d) "dict":=⟨o,c,e.1⟩
 refine wpAny_pyIter_slot hT PySem.F.slot_dict_iter (ë PySem.F.slot_dict_iter hT PySem.F.entry_dict_iter ?_ (PySem.F.args_dict_iter_1 _));refine wB ?_;refine wB (ę hT ?_);refine wP ?_;show wpAny _ _ (Builtin.Dict.showsAll d >>= _) _ _ s;unfold Builtin.Dict.showsAll;rw[iN (by rw[hs];exact xF0)];rw[28];refine wB (ď c a ?_);refine wB (ģ c a ?_);refine wB (ü (wP ⟨_,rfl,_,_,(Z3 _ (á _ rfl) rfl),PySem.F.slot_dict_keyiterator_next.lookup,?_⟩));simpa [rawInt,b]using hQ
theorem Jq(a:s.heap.IsKeyIter it d i ↑66 ep)(hm:KAt d us ep s.heap)(p:us[i]? =some x)
  (hQ: ∀h',h'.IsKeyIter it d (i+1) ↑66 ep->Heap.SameBut it s.heap h'->Q (some x) {s with heap:=h'}):wpAny (model P w) A (pyNext (.ref it)) Q E s:=by
 refine(id a).b λo n u m=>?_;refine hm.size.l λv es k r e h j=>?_;have c:i<es.size:=by rw[h];exact((gS.mp p).1)
 refine wB (Ć (í a.typeIs PySem.F.slot_dict_keyiterator_next (ë PySem.F.slot_dict_keyiterator_next a.typeIs PySem.F.entry_dict_keyiterator_next ?_ (PySem.F.args_dict_keyiterator_next_1 _))));refine wB (wP (wB (wB ?_)))
 first |refine wB (İ a.typeIs (wP ?_))|refine wB _
 refine wB (wpAny_fieldsOf n m ?_);have q:Builtin.Dict_items.ownsTuple "dict_keyiterator"=false:=by decide
 rw[21];refine wB (wP (wB (ď k e ?_)));rw[iN (by rw[h];simp)];refine wB (wP (wB (ģ k e ?_)));rw[30];refine wP ?_;simp only[show¬(_<0)from by lia,Ĉ,Ċ c];refine wB ?_
 first |refine wB (İ a.typeIs (wP ?_))|refine wB _
 refine wB (wpAny_isOneOf_keyiter a.typeIs ?_);show wpAny _ _ (setField _ 1 _ >>= _) _ _ s;refine wB (Ń n m (by simp) ?_)
 have b:(s.heap.update it (Obj.mapFields (·.setIfInBounds 1 (rawInt ((i:Int)+1))))).IsKeyIter it d (i+1) ↑66 ep:=
  (ZB _ (ķ _ n (Obj.isFreed_of_fields (Ķ m _))) ((Obj.cls_mapFields ..).trans u) (by rw[Ķ m];simp[rawInt]))
 refine wB (ù ?_);refine wB (wpAny_isOneOf_keyiter b.typeIs ?_);rw[25];exact wP (wP (Z3 _ rfl (wP ((by have:=j i c;rw[p]at this;exact(ä this).symm)▸hQ _ b (č ..)))))
def Ef(hh:↑70)(I)(hne:d≠I)(us)(ep):Walks P w A I [I,d] [I] ↑66 (λi x=>us[i]? =some x) (λi h=>h.IsKeyIter I d i ↑66 ep/\KAt d us ep h) where
 sub:=λb hb=>by simp at hb;simp[hb]
 frame:=λ_ _ _ st hk=>⟨st.1.at λo e=>hk I (by simp) o e,st.2.at λo e=>hk d (by simp) o e⟩
 item:=λi s Q E hi st hQ=>by have hx:=gE hi;refine Jq st.1 st.2 hx λh' hit' hs'=>?_;exact hQ _ h' s.toks hx ⟨hit',st.2.at λo e=>hs'.extBut d o hne e⟩ λb o hb e=>hs'.extBut b o (λh=>hb (by simp[h])) e
 done:=λs Q E st hQ=>(by
   refine(id (st.1)).b λo ho hc hd=>?_;refine((st.2).size).l λod es hod hcd hdd hsz hval=>?_;refine wB (Ć (í (st.1).typeIs PySem.F.slot_dict_keyiterator_next (ë PySem.F.slot_dict_keyiterator_next (st.1).typeIs PySem.F.entry_dict_keyiterator_next ?_ (PySem.F.args_dict_keyiterator_next_1 _))));refine wB (wP (wB (wB ?_)))
   first |refine wB (İ (st.1).typeIs (wP ?_))|refine wB _
   refine wB (wpAny_fieldsOf ho hd ?_);have hown:Builtin.Dict_items.ownsTuple "dict_keyiterator"=false:=by decide
   rw[21];refine wB (wP (wB (ď hod hdd ?_)));rw[iN (by rw[hsz];simp)];refine wB (wP (wB (ģ hod hdd ?_)));rw[30];refine wP ?_;simp only[iF,Ĉ,Ĵ (by rw[hsz];exact (à _))];refine wB ?_
   first |refine wB (İ (st.1).typeIs (wP ?_))|refine wB _
   show wpAny _ _ (setField _ 0 .none >>= _) _ _ s;refine wB (Ń ho hd (by simp) ?_);refine wB ?_;refine wB (ü ?_ (by size_fits));refine wB (wpAny_of_eq (by first |rfl|(simp only[firstArgMember];rfl)) ?_);refine ü ?_ (by size_fits);refine wB (wpAny_handled ?_);rw[show A.in1.handled=none from hh];refine wB (wP (wpAny_throw ?_));refine wB (Ě (Z3 _ (á _ rfl) rfl) ń ?_);exact wP ((λh' he'=>hQ h' s.toks λb o hb e=>he' b o (λh=>hb (by simp[h])) e) _ (((č ..).extBut.push _).push _)))
 self:=λ_ _ _ _ st hQ=>wpAny_pyIter_keyiter st.1 hQ
def Jt(us)(ep):PySem.W.KdlSrc P w "dict" d d ↑66 (λi x=>us[i]? =some x) (λh=>(d==sysModules)=false/\KAt d us ep h) where
 type:=λ_ hm=>let ⟨o,_,ho,hc,_⟩:=hm.2;⟨o,ho,hc.1⟩
 there:=λ_ hm=>⟨let ⟨_,_,ho,_⟩:=hm.2;ã ho,let ⟨_,_,ho,_⟩:=hm.2;ã ho⟩
 keep:=λ_ _ hm hk=>⟨hm.1,hm.2.at λo e=>hk d (.inl rfl) o e⟩
 notList:=by decide
 notTuple:=by decide
 hint:=λ_ _ _ _ hm hq=>PySem.W.kdl_hint_dict (let ⟨o,_,ho,hc,_⟩:=hm.2;⟨o,ho,hc.1⟩) hq
 iter:=λ_ _ hh hm=>(Z0 _ _ (λ_ _ hq=>Ee hm.1 hm.2 hq) (Ef hh _ (é (let ⟨_,_,ho,_⟩:=hm.2;ã ho)) us ep) ⟨↑26,hm.2.at λo e=>hP0 _ e⟩)
end
section
theorem UG{K:U0}: ∀{kvs}{xs},DenN K α H kvs xs->DenL K α H (kvs.map (·.1)) (xs.map λx=>V.ref x.2.1)
 |_,_,.nil=>zZ
 |_,_,.cons hk e a d r l=>zQ a (UG l)
theorem UH: ∀(xs:↑46),Vals (xs.map λx=>V.ref x.2.1) (xs.map λx=>Value.ref x.2.1)
 |[]=>.nil
 |x::xs=>.cons rfl (UH xs)
theorem XX:CallR X (.type "list") (λxs H Q=> ∃d m α kvs,xs=[.ref d]/\DD X H d m/\DenN X.K α H kvs m/\X.calm=true/\ ∀p,H p=none->Q (.ref p) (xV H p (.lst (m.map λx=>V.ref x.2.1)))):=by
 intro pins s σ H xs M Q I r h;refine h.o λd m α kvs g v dn C q=>?_;subst g;refine(vals1 r).a λu N B=>?_;subst N;cases B;refine V0 λT=>?_;refine(qE I v dn).e λO k hs=>?_;refine O.g λo es i P=>P.f λz e G D _ _=>?_;have n:KAt d (m.map λx=>Value.ref x.2.1) i s.heap:=(Ym o es z e G (by rw[D,ħ];rfl))
 refine T ?_;refine PySem.W.kdl_call (Jt _ i) (I.ok.hd C) ⟨hs,n⟩ (by rw[lM];exact k) λh' L b J A E a=>?_
 have y:b.toList=m.map λx=>Value.ref x.2.1:=by
  refine ext_getElem? λj=>?_;by_cases F:j<b.size
  .have c:=Ċ F;rw[ð,c];exact(a.2 j _ c).symm
  .have c:(m.map λx=>Value.ref x.2.1).length<=j:=by have:=a.1;lia
   rw[ð,Ĵ #[0],getElem?_eq_none c]
 refine Z0 (.ref ↑0) _ (I.laid A (à _) (show ObjOk X.prog X.w _ h' _ (.lst _)from⟨by rw[lM];exact k,b.toList,J,by rw[y];exact UH m,?_⟩)) rfl (q _ ↑25);exact E
def EL:List Er->Sto->R Er
 |[r],S=>match jW S r with |some (_,kvs)=>.ok (.new (kvs.map (·.1))) S|none=>.no
 |_,_=>.no
def Ju(k:X.calm=true):pF X W (λxs H Q=> ∃d j α kvs,xs=[.ref d]/\DD X H d j/\DenN X.K α H kvs j/\X.calm=true/\ ∀p,H p=none->Q (.ref p) (xV H p (.lst (j.map λx=>V.ref x.2.1)))) EL:=by
 intro r vs α S H Q h d a;unfold EL at a;split at a
 .split at a
  .rename_i n kvs e;refine(rS d).a λv g o=>?_;subst g;refine(sS h e o).l λc xs u i s m b=>?_;subst u;exact YQ c xs (α) kvs ⟨rfl,m,b,k,λp q=>a.newl h q (UG b)⟩
  .exact a.elim
 .exact a.elim
end
mutual
def XY:Expr->List Str
 |.Name x _=>[x]
 |.Tuple es _ _=>zAO es
 |_=>[]
def zAO:List Expr->List Str
 |[]=>[]
 |e::es=>XY e++zAO es
end
section
variable{pos:Pos}
noncomputable abbrev gnN(T:C0)(N:C0)(a:Db):List Str:=[]++T++a.map λi=>(N[i]?).getD Str.empty
def Jv(a:FnScope N ps osc)
  (hi:KC X W tg iter itf) (hg: ∀C j m fp,(gnN (XY tg) N idx).Nodup->Ma (XY tg).length ↑65 W0 tg gf)
  (hc: ∀C j m fp,SN ↑65 W0 ifs cf) (he: ∀C j m fp,zI ↑65 W0 elt ef)
  (hcalm:X.calm=true:=by rfl) (e1:↑34=osc:=by rfl) (e2:X.N=N:=by rfl) (hB:vF osc N sc idx=true:=by decide+kernel) (hN:(gnN (XY tg) N idx).Nodup:=by decide+kernel)
  (hs: ∀y,foldedSetIterable iter X.env y=pure y:=by intro _;rfl):
  zI X W ↑19 (λq S=>(itf q S).bind λk u=>if k.ds.length<1000000 then(yD gf cf ef (vH (XY tg).length idx q) k.gs k.ds u).bind λout S2=>.ok (.new out) S2 else .no):=Om osc N _ idx hi hcalm hg hc he e1 e2 hB hN hs
def Jw{x:Str}{a b:Pos}{i:Nat}(c:FnScope N ps osc)
  (hi:KC X W tg iter itf) (hg: ∀C j m fp,(gnN (XY tg) N idx).Nodup->Ma (XY tg).length ↑65 W0 tg gf)
  (hc: ∀C j m fp,SN ↑65 W0 ifs cf) (he: ∀C j m fp,zI ↑65 W0 elt ef)
  (hcalm:X.calm=true:=by rfl) (e1:↑34=osc:=by rfl) (e2:X.N=N:=by rfl) (hB:vF osc N sc idx=true:=by decide+kernel) (hN:(gnN (XY tg) N idx).Nodup:=by decide+kernel)
  (hs: ∀y,foldedSetIterable iter X.env y=pure y:=by intro _;rfl)
  (hi2:X.N[i]? =some x:=by rfl) (hx:Loc ↑34 x:=by first |exact Or.inl rfl|exact Or.inr rfl)
  (hsw:swapsWith ↑19 (some (.Name x a)) b.line X.env=pure true:=by with_unfolding_all rfl) (hf:Q2 X x:=by first |exact .inl rfl|exact .inr rfl|assumption):
  OO X W (.Assign [.Name x a] ↑19 b) (λq S=>((itf q S).bind λk u=>if k.ds.length<1000000 then(yD gf cf ef (vH (XY tg).length idx q) k.gs k.ds u).bind λout S2=>.ok (.new out) S2 else .no).bind (HW q i)):=On i (by rw[e2];exact c.nd) osc N _ idx hi hcalm hg hc he e1 e2 hB hN hs hi2 hx hsw hf
end
section
variable{K:U0}{x:Str}{st:Stmt}
abbrev ScK(N ps:C0)(a:Scope):Prop:=N.Nodup/\N.take ps.length=ps/\(∀x∈ps,a.names.lookup x=some .local\/a.names.lookup x=some .cell)/\ ∀y∈a.names,y.2≠.free
def okL(Fb)(F:Fun K x qual st f fd)
  (h: ∀ m  A  j  s  H  E ,N.Nodup->FnScope N ps (zP st)->Room k (A.deeper (envOfC qual (zP st) ↑0 f m))->DX (RU GP P w K mg base N qual (zP st) f m A j s H E).nox W0 (bD st) Fb)
  (h4:ScK N ps (zP st):=by decide+kernel) (a:(zP st).kind=.function:=by rfl) (b:(zP st).isCoroutine=false:=by rfl) (c:(zP st).isGenerator=false:=by rfl):
  FnOk P w K mg base GP (k+1) f fd ps (VW ⟨K,mg,P,w⟩ ps.length λds S=>zT (Fb (zM N ds) S)):=
 have d:=⟨a,b,c,h4.1,h4.2.1,h4.2.2.1,h4.2.2.2⟩
 okM Fb F d λm A j s H E e=>h m A j s H E d.nd d e
def E9:Nat->(List Ŕ->Prop)->Prop
 |0,p=>p []
 |n+1,p=> ∀a,E9 n λl=>p (a::l)
theorem zAP: ∀ us {p},E9 ↑66 p->p us
 |[],_,h=>h
 |a::l,_,h=>zAP l (h a)
def forN(h:E9 n p)(us)(e:↑66=n):p us:=zAP us (e▸h)
def okA(Fb)(D:DefM K mg x st)
  (h: ∀ f  q  A  j  s  H  E ,N.Nodup->FnScope N ps (zP st)->Room k (A.deeper (envOfC x (zP st) ↑0 f q))->DX (RU GP P w K mg base N x (zP st) f q A j s H E).nox W0 (bD st) Fb)
  (hb:Iw x st ps:=by exact λ_ _ _ _ _ _=>forN (by(repeat intro _);rfl))
  (h4:ScK N ps (zP st):=by decide+kernel) (a:(zP st).kind=.function:=by rfl) (b:(zP st).isCoroutine=false:=by rfl) (c:(zP st).isGenerator=false:=by rfl):
  Dr P w K mg base x (k+1) ps.length ps λds S=>zT (Fb (zM N ds) S):=
 (let ⟨f,e,m,d⟩:=D.ex;⟨f,e,(λf _ F=>okL Fb F (h f) h4 a b c) f e d,m,d.kp,d.binds hb⟩)
end
def RMtX(P:ŕ)(w:World)(K:U0)(mg:K0)(base:Heap)(m:Str)(k n:Nat)(c:Str)(F:↑21):Prop:= ∃C a b ps,OC K c C/\Meth K C m a/\FnOk P w K mg base (CXe P w) k a b ps (zCA ⟨K,mg,P,w⟩ n F)/\Binds K b ps []
def RMtX.noX{K:U0}(T:RMtX P w K mg base m k n c F):RMt P w K mg base m k n c F:=let ⟨C,b,e,ps,a,hm,G,d⟩:=T;(YQ C b e ps ⟨a,hm,G.noX,d⟩)
end M
end L2
namespace L2
namespace M
namespace My
open PySem PySem.Spec PyProof.Rows
set_option bootstrap.genMatcherCode true in
local macro_rules
 | `(tactic|simp? [$xs,*] $[$l:location]?)=>`(tactic|simp only[List.getElem?_cons_zero,getElem?_cons_succ,Pj,bB,as_int,X4,Zb,add_int,sub_int,eq_int,Zc,X5,lst1,X6,X7,lst6,tup2,X8,Zg,Zh,Zi,Zj,Zk,Zl,Pp,Pq,List.set_cons_zero,set_cons_succ,if_true,Ps,Pr,vJ,kJ,bJ,dJ,nJ,aJ,iJ,mJ,tJ,zJ,fJ,eJ,uJ,pJ,jJ,qJ,rJ,sJ,wJ,yJ,AJ,BJ,CJ,DJ,EJ,FJ,JJ,$xs,*] $[$l:location]?)
set_option bootstrap.genMatcherCode true in
local macro_rules
 |`(#[$x])=>`(some (.loc $x))
 |`(#[$x,0])=>`(some (.int $x))
 |`(#[$x,1])=>`(.val (.loc $x))
 |`(#[$x,2])=>`(some (.lst $x))
 |`(#[$x,3])=>`(some (.tup $x))
 |`(#[$x,4])=>`(some (.str $x))
 |`(#[$x,5])=>`(.val (.int $x))
 |`(#[$x,6])=>`(.val (.tup $x))
 |`(#[$x,7])=>`(some (.dic $x))
 |`(#[$x,8])=>`(($x).map MV.str)
 |`(#[])=>`(by lia)
 |`(#[$x,$s,0])=>`(.ok (.next $x) $s)
 |`(#[$x,$s,1])=>`(.ok (.val $x) $s)
 |`(#[$x,$s,2])=>`(.ok (.new $x) $s)
noncomputable abbrev qG:List Str:=["thing","least","most"]
noncomputable abbrev FO:List Str:=[Ŗ,ŗ,"_law_digit"]
noncomputable abbrev sX:List Str:=[Ŗ,Ş,Ś]
abbrev AF:=AY
abbrev AE:=AX
def CI:AF:=(AJ (aJ (bJ (yJ (vJ 0) (yJ (kJ (.typ "int")) wJ)) BM) (nJ (bJ (yJ (vJ 0) (yJ (kJ (.typ "bool")) wJ)) BM))))
def IV:AF:=(CI)
def gU(ds:X0)(S:Sto):R Er:=zT (IV (zM ["thing"] ds) S)
def dW:AZ:=uJ
def jZ:AE:=(jJ RO RO (kJ (.str [97])) (vJ 0) (kJ (.str [122])))
def sY:AF:=(iJ (sJ (qJ (bJ (bJ (yJ (vJ 0) (yJ (kJ (.typ "str")) wJ)) BM) pE)) (qJ (bJ (jJ RO RO ↑18 (bJ ↑41 nZ) (kJ (.int (8)))) gY))) ((AJ (kJ (.bl false)))) (JJ))
def sZ:AF:=(AJ (bJ (yJ (pJ (bJ (vJ 0) zBX) (zV 0) (dW) (jZ) 1 []) wJ) WV))
def EM:AF:=zF (sY) ((sZ))
def fR(ds:X0)(S:Sto):R Er:=zT (EM (zM ["thing"] ds) S)
def eS:AF:=(iJ (bJ (fJ 1 gU ↑41) pE) ((AJ (dJ Hg (bJ ↑41 Pe) (dJ Hd (kJ (.int 10)) (kJ (.int 30)))))) (JJ))
def qH:AF:=(AJ (fJ 1 fR ↑41))
def AN:AF:=zF (eS) ((qH))
def qI(ds:X0)(S:Sto):R Er:=zT (AN (zM ["thing"] ds) S)
def bI:AF:=(iJ (bJ (bJ (yJ (vJ 0) (yJ (kJ (.typ "str")) wJ)) BM) pE) ((AJ (bJ (yJ ↑18 (yJ ↑31 ↑41)) nW))) (JJ))
def iH:AF:=(AJ (bJ (yJ ↑31 (yJ (vJ 0) (yJ (kJ (.str [])) wJ))) nW))
def eT:AF:=zF (bI) ((iH))
def eU(ds:X0)(S:Sto):R Er:=zT (eT (zM ["value"] ds) S)
def cX:AZ:=uJ
def jB:AE:=(fJ 1 eU ↑41)
def iI:AF:=(AJ (bJ (yJ (pJ (bJ (vJ 0) ZE) (zV 0) (cX) (jB) 1 []) wJ) kG))
def eV:AF:=(iI)
def eW(ds:X0)(S:Sto):R Er:=zT (eV (zM ["values"] ds) S)
def iK:AY:=(iJ (sJ (qJ (bJ (vJ 1) pE)) (bJ (dJ KO (dJ jV (vJ 1) (kJ (.int (-1)))) (vJ 2)) gY)) ((BJ (eJ kH oF (vJ 1) (yJ (vJ 2) wJ)))) (JJ))
def eX:AY:=(iK)
def eY:AF:=(CJ (bJ wJ jN) 1)
def eZ:AF:=(FJ (bJ (bJ ↑41 (FM false eW)) GH) (zV 2) (eX))
def qK:AF:=(AJ (vJ 1))
def qL:AF:=zF (eY) (zF (eZ) ((qK)))
def qM(ds:X0)(S:Sto):R Er:=zT (qL (zM ["some","ordered","values"] ds) S)
def qN:AF:=(AJ (aJ (bJ (yJ (vJ 0) (yJ (kJ (.typ "tuple")) wJ)) BM) (jJ RO RO (vJ 1) (bJ ↑41 nZ) (vJ 2))))
def qO:AF:=(qN)
def kM(ds:X0)(S:Sto):R Er:=zT (qO (zM qG ds) S)
def jP:AF:=(AJ (aJ (fJ 1 gU ↑41) (jJ RO Hg ↑31 (vJ 0) (vJ 1))))
def wU:AF:=(jP)
def wV(ds:X0)(S:Sto):R Er:=zT (wU (zM ["thing","bound"] ds) S)
def mI:AF:=(iJ (qJ (bJ (fJ 3 kM (yJ (vJ 0) (yJ (kJ (.int 2)) (yJ (kJ (.int 2)) wJ)))) pE)) ((AJ (kJ (.bl false)))) (JJ))
def mK:AF:=(iJ (bJ (dJ BG (dJ jV (vJ 0) ↑31) ↑61) gY) ((AJ (fJ 1 fR (yJ (dJ jV (vJ 0) ↑18) wJ)))) (JJ))
def tD:AF:=(AJ (aJ (dJ BG (dJ jV (vJ 0) ↑31) (kJ (.str [105,115]))) (fJ 1 qI (yJ (dJ jV (vJ 0) ↑18) wJ))))
def uK:AF:=zF (mI) (zF (mK) ((tD)))
def uL(ds:X0)(S:Sto):R Er:=zT (uK (zM ["thing"] ds) S)
def oG:AZ:=uJ
def dX:AE:=(fJ 1 uL ↑41)
def tE:AF:=(iJ (sJ (qJ (bJ (fJ 3 kM (yJ (vJ 0) (yJ (kJ (.int 2)) (yJ (kJ (.int 2)) wJ)))) pE)) (qJ (bJ (fJ 2 wV (yJ (dJ jV (vJ 0) ↑31) (yJ (bJ ↑35 nZ) wJ))) pE))) ((AJ (kJ (.bl false)))) (JJ))
def tF:AF:=(CJ (dJ jV (dJ jV (vJ 1) (dJ jV (vJ 0) ↑31)) ↑31) 2)
def tG:AF:=(AJ (aJ (fJ 3 kM (yJ (dJ jV (vJ 0) ↑18) (yJ (vJ 2) (yJ (vJ 2) wJ)))) (bJ (yJ (pJ (bJ (dJ jV (vJ 0) ↑18) ZE) (zV 0) (oG) (dX) 1 []) wJ) WV)))
def EN:AF:=zF (tE) (zF (tF) ((tG)))
def uM(ds:X0)(S:Sto):R Er:=zT (EN (zM ["thing","tables","wide"] ds) S)
def bK:AY:=(iJ (bJ (dJ BG (dJ jV (vJ 3) ↑31) ↑61) gY) ((EJ (kJ (.bl true)) (DJ CC (vJ 1) (dJ jV (vJ 3) ↑18)))) (JJ))
def bL:AY:=(bK)
def iL:AY:=(FJ (bJ (dJ jV (vJ 2) ↑18) ZE) (zV 3) (bL))
def bM:AY:=(iL)
def fA:AF:=(CJ zJ 1)
def fB:AF:=(FJ (bJ (vJ 0) itQ) (zV 2) (bM))
def fC:AF:=(AJ (bJ ↑35 EF))
def qP:AF:=zF (fA) (zF (fB) ((fC)))
def yV(ds:X0)(S:Sto):R Er:=zT (qP (zM ["atoms","names","atom","term"] ds) S)
def oH:AZ:=uJ
def dY:AE:=(dJ (KQ false) (vJ 0) (vJ 1))
def tH:AF:=(CJ (fJ 1 yV ↑35) 2)
def tI:AF:=(iJ (sJ (bJ (dJ zBZ (bJ ↑41 nZ) (kJ (.int (4)))) gY) (qJ (bJ (bJ (yJ (pJ (bJ (vJ 0) itQ) (zV 0) (oH) (dY) 1 [2]) wJ) WV) pE))) ((AJ (kJ (.bl false)))) (JJ))
def tK:AF:=(AJ (dJ BG (bJ ↑41 MK) (bJ ↑41 nZ)))
def EO:AF:=zF (tH) (zF (tI) ((tK)))
def uN(ds:X0)(S:Sto):R Er:=zT (EO (zM ["things","atoms","standing"] ds) S)
def AO:AF:=(AJ (bJ (yJ (vJ 0) (yJ (bJ (yJ (kJ (.typ "list")) (yJ (kJ (.typ "tuple")) wJ)) nW) wJ)) TN))
def CK:AF:=(AO)
def tL(ds:X0)(S:Sto):R Er:=zT (CK (zM ["thing"] ds) S)
def bN:AY:=(iJ (qJ (bJ (fJ 2 uM (yJ (vJ 4) ↑41)) pE)) ((λ_ _=>R.no)) (JJ))
def gB:AY:=(bN)
def aO:AF:=(iJ (qJ (bJ (fJ 1 tL (yJ (vJ 2) wJ)) pE)) ((λ_ _=>R.no)) (JJ))
def aP:AF:=(FJ (bJ (yJ (vJ 2) wJ) Tv) ↑23 (gB))
def aQ:AF:=(iJ (sJ (qJ (bJ (jJ RO RO ↑18 (bJ (yJ (vJ 2) wJ) nZ) (kJ (.int (4)))) gY)) (sJ (qJ (bJ (fJ 1 tL ↑35) pE)) (qJ (bJ (fJ 2 uN (yJ (vJ 1) (yJ (vJ 2) wJ))) pE)))) ((λ_ _=>R.no)) (JJ))
def aR:AF:=(AJ (bJ (yJ (bJ ↑35 kG) (yJ (bJ (yJ (vJ 2) wJ) kG) wJ)) nW))
def oI:AF:=zF (aO) (zF (aP) (zF (aQ) ((aR))))
def xF(ds:X0)(S:Sto):R Er:=zT (oI (zM ["tables","head","atoms","place","atom"] ds) S)
def yT:AY:=(CJ (iJ (bJ (dJ BG (dJ jV (vJ 3) ↑31) ↑61) gY) (eJ KW Jc (vJ 2) (yJ (dJ jV (vJ 3) ↑18) (yJ (vJ 4) wJ))) (dJ jV (vJ 3) ↑18)) 5)
def dZ:AY:=(iJ (bJ (dJ KO (vJ 5) (vJ 4)) gY) ((AJ (kJ .non))) (JJ))
def xU:AY:=zF (yT) ((dZ))
def mL:AF:=(CJ zJ 2)
def mN:AF:=(FJ (bJ (yJ (vJ 0) ↑35) Yx) ↑23 (xU))
def FP:AF:=(AJ (vJ 2))
def fS:AF:=zF (mL) (zF (mN) ((FP)))
def fU(ds:X0)(S:Sto):R Er:=zT (fS (zM ["terms","cells","values","term","cell","expected"] ds) S)
def nA:AZ:=(bJ (dJ BG (dJ jV (vJ 0) ↑31) (dJ jV (vJ 2) ↑31)) gY)
def xG:AE:=(bJ (yJ (fJ 2 fU (yJ (dJ jV (vJ 2) ↑18) (yJ (dJ jV (vJ 0) ↑18) wJ))) ↑35) nW)
def xH:AZ:=(bJ (dJ BH (vJ 0) (kJ .non)) gY)
def hX:AE:=(bJ (yJ (vJ 0) ↑35) nW)
def mP:AF:=(CJ (pJ (bJ (yJ (vJ 0) ↑35) Yx) ↑33 (nA) (xG) 2 [2]) 3)
def mQ:AF:=(AJ (pJ (bJ (vJ 3) GH) ↑33 (xH) (hX) 2 []))
def uO:AF:=zF (mP) ((mQ))
def pO(ds:X0)(S:Sto):R Er:=zT (uO (zM ["rows","marks","atom","fits"] ds) S)
def aS:AZ:=uJ
def gC:AE:=(dJ UA (vJ 1) (vJ 0))
def oK:AF:=(AJ (bJ (yJ (pJ (bJ (vJ 1) itQ) (zV 0) (aS) (gC) 1 [0]) wJ) kG))
def mR:AF:=(oK)
def yI(ds:X0)(S:Sto):R Er:=zT (mR (zM ["values","names"] ds) S)
def uP:AY:=(CJ (fJ 2 yI (yJ (vJ 3) ↑35)) 5)
def uQ:AY:=(EJ (dJ E1 (eJ sW CF (vJ 2) (yJ (vJ 5) (yJ ↑31 wJ))) (vJ 4)) (DJ BU (vJ 2) (vJ 5)))
def GX:AY:=zF (uP) ((uQ))
def EQ:AZ:=uJ
def pP:AE:=(bJ (yJ (bJ (yJ (vJ 2) ↑41) N8) ↑35) nW)
def GY:AF:=(CJ zJ 2)
def GZ:AF:=(FJ (bJ (vJ 0) GH) ↑23 (GX))
def HA:AF:=(AJ (pJ (bJ (vJ 2) Dy) ↑33 (EQ) (pP) 2 [1]))
def Ao:AF:=zF (GY) (zF (GZ) ((HA)))
def MU(ds:X0)(S:Sto):R Er:=zT (Ao (zM ["fits","names","told","values","mark","some"] ds) S)
def qQ:AY:=(BJ (eJ kH oF (eJ sW N3 (vJ 3) (yJ (fJ 2 yI (yJ (vJ 4) (yJ (vJ 2) wJ))) (yJ (bJ wJ jN) wJ))) (yJ (bJ (yJ (vJ 4) (yJ (vJ 5) wJ)) nW) wJ)))
def iM:AY:=(qQ)
def qS:AY:=(iJ (bJ (dJ FL (vJ 8) (vJ 5)) pE) (zF (CJ (bJ (yJ (vJ 7) wJ) TV) 9) (zF (BJ (eJ KW IT (vJ 9) (yJ (vJ 4) wJ))) ((BJ (eJ kH oF (vJ 6) (yJ (bJ (yJ (vJ 9) (yJ (dJ FL (vJ 8) (vJ 5)) wJ)) nW) wJ)))))) (JJ))
def iO:AY:=(qS)
def qT:AY:=(FJ (bJ (eJ sW CF (vJ 3) (yJ (fJ 2 yI (yJ (vJ 7) (yJ (vJ 2) wJ))) (yJ (bJ wJ jN) wJ))) GH) ↑56 (iO))
def iQ:AY:=(qT)
def AQ:AF:=(CJ zJ 3)
def qU:AF:=(FJ (bJ (vJ 1) GH) ↑56 (iM))
def qV:AF:=(CJ (bJ wJ jN) 6)
def qW:AF:=(FJ (bJ (vJ 0) GH) (iB 2 (zB (zV 7) (zB (zV 8) zY))) (iQ))
def IW:AF:=(AJ (vJ 6))
def CL:AF:=zF (AQ) (zF (qU) (zF (qV) (zF (qW) ((IW)))))
def tM(ds:X0)(S:Sto):R Er:=zT (CL (zM ["fits","others","shared","by_shared","more","other","together","values","mark","both"] ds) S)
def kN:AZ:=(bJ (dJ (KQ false) (vJ 0) (vJ 1)) gY)
def aF:AE:=(vJ 0)
def kO:AZ:=(sJ (bJ (dJ (KQ false) (vJ 0) (vJ 1)) gY) (bJ (dJ (KQ false) (vJ 0) (vJ 2)) gY))
def aG:AE:=(vJ 0)
def kP:AZ:=(bJ (dJ (KQ true) (vJ 0) (vJ 1)) gY)
def aH:AE:=(vJ 0)
def kQ:AZ:=(bJ (dJ (KQ false) (vJ 0) (vJ 1)) gY)
def aI:AE:=(vJ 0)
def kR:AY:=(CJ (fJ 1 yV (yJ (bJ (yJ (vJ 8) wJ) jN) wJ)) 9)
def kS:AY:=(CJ (pJ (bJ (vJ 9) GH) (zV 0) (kN) (aF) 1 [5]) 10)
def kT:AY:=(CJ (dJ jU (bJ (yJ (vJ 3) wJ) SU) (fJ 1 yV (yJ (tJ OV (vJ 4) (bJ (dJ jU (vJ 7) ↑18) M5) mJ) wJ))) 11)
def kU:AY:=(CJ (fJ 2 MU (yJ (fJ 3 pO (yJ (vJ 0) (yJ (vJ 1) (yJ (vJ 8) wJ)))) (yJ (pJ (bJ (vJ 9) GH) (zV 0) (kO) (aG) 1 [10,11]) wJ))) 12)
def kW:AY:=(CJ (pJ (bJ (vJ 9) GH) (zV 0) (kP) (aH) 1 [10]) 13)
def kX:AY:=(CJ (pJ (bJ (dJ jU (vJ 5) (vJ 13)) GH) (zV 0) (kQ) (aI) 1 [11]) 5)
def kY:AY:=(CJ (fJ 2 MU (yJ (fJ 3 tM (yJ (vJ 6) (yJ (vJ 12) (yJ (vJ 10) wJ)))) (yJ (vJ 5) wJ))) 6)
def yW:AY:=zF (kR) (zF (kS) (zF (kT) (zF (kU) (zF (kW) (zF (kX) ((kY)))))))
def xB:AZ:=uJ
def yO:AE:=(bJ (yJ (fJ 2 yI (yJ (vJ 0) (yJ (vJ 2) wJ))) ↑35) nW)
def iR:AF:=(CJ (dJ jV (vJ 2) ↑31) 3)
def gV:AF:=(CJ (dJ jV (vJ 2) ↑18) 4)
def xY:AF:=(CJ (bJ wJ jN) 5)
def xZ:AF:=(CJ (bJ (yJ (bJ (yJ zJ (yJ (kJ (.int (-1))) wJ)) nW) wJ) jN) 6)
def gW:AF:=(FJ (bJ (yJ (vJ 4) wJ) Tv) (iB 2 (zB (zV 7) (zB (zV 8) zY))) (yW))
def gX:AF:=(AJ (bJ (yJ (pJ (bJ (vJ 6) GH) ↑33 (xB) (yO) 2 [3]) wJ) MT))
def cY:AF:=zF (iR) (zF (gV) (zF (xY) (zF (xZ) (zF (gW) ((gX))))))
def xS(ds:X0)(S:Sto):R Er:=zT (cY (zM ["rows","marks","question","head","atoms","known","fits","place","atom","own","shared","asked","others","new"] ds) S)
def vK:AZ:=uJ
def vL:AE:=↑18
def tN:AF:=(AJ (fJ 1 qM (yJ (bJ (yJ (fJ 3 xS (yJ (vJ 0) (yJ (pJ (bJ (vJ 0) GH) (zV 0) (vK) (vL) 1 []) ↑35))) wJ) EL) wJ)))
def uR:AF:=(tN)
def cZ(ds:X0)(S:Sto):R Er:=zT (uR (zM ["rows","question"] ds) S)
def jC:AF:=(iJ (bJ (dJ Hg (vJ 1) (bJ ↑41 nZ)) gY) ((AJ (dJ jV (vJ 0) (vJ 1)))) (JJ))
def pQ:AF:=(AJ ↑31)
def bO:AF:=zF (jC) ((pQ))
def zR(ds:X0)(S:Sto):R Er:=zT (bO (zM [ś,Š] ds) S)
def bP:AY:=(CJ (dJ KN (dJ jU (dJ jU (dJ BF (vJ 2) (kJ (.int 48271))) (dJ BF (kJ (.int 7919)) (vJ 4))) (kJ (.int 11))) (kJ (.int 2147483647))) 2)
def bQ:AY:=(CJ (dJ KN (dJ BF (vJ 2) (vJ 2)) (kJ (.int 2147483629))) 5)
def bR:AY:=(CJ (dJ jU (dJ BF (vJ 3) (kJ (.int 2147483587))) (dJ KN (dJ BF (vJ 5) (kJ (.int 69621))) (kJ (.int 2147483587)))) 3)
def gD:AY:=zF (bP) (zF (bQ) ((bR)))
def gF:AF:=(CJ (dJ SR (vJ 0) (kJ (.int 2))) 1)
def gG:AF:=(iJ (bJ (dJ BG (dJ KN (vJ 0) (kJ (.int 2))) ↑31) gY) ((AJ (bJ ↑35 jN))) (JJ))
def aT:AF:=(CJ (dJ KN (vJ 1) (kJ (.int 2147483647))) 2)
def rV:AF:=(CJ ↑31 3)
def aU:AF:=(FJ (bJ (yJ (kJ (.int 16)) wJ) nY) (zV 4) (gD))
def aV:AF:=(AJ (bJ (yJ (vJ 3) wJ) jN))
def nB:AF:=zF (gF) (zF (gG) (zF (aT) (zF (rV) (zF (aU) ((aV))))))
def yA(ds:X0)(S:Sto):R Er:=zT (nB (zM [Ű,"_law_rest","_law_number","_law_total",Š,"_law_other"] ds) S)
def nE:AF:=(CJ (dJ KN (dJ jV (vJ 0) ↑31) (vJ 1)) 2)
def nF:AF:=(EJ (dJ SR (dJ jV (vJ 0) ↑31) (vJ 1)) (DJ LZ (vJ 0) ↑31))
def vM:AF:=(AJ (vJ 2))
def tO:AF:=zF (nE) (zF (nF) ((vM)))
def zC(ds:X0)(S:Sto):R Er:=zT (tO (zM FO ds) S)
def aW:AY:=(CJ (dJ jU (vJ 2) (dJ jV (vJ 1) (fJ 2 zC (yJ (vJ 0) (yJ (kJ (.int 26)) wJ))))) 2)
def nG:AY:=(aW)
def vN:AF:=(CJ (kJ (.str [97,98,99,100,101,102,103,104,105,106,107,108,109,110,111,112,113,114,115,116,117,118,119,120,121,122])) 1)
def vO:AF:=(CJ (kJ (.str [])) 2)
def oM:AF:=(FJ (bJ (yJ (dJ jU ↑18 (fJ 2 zC (yJ (vJ 0) (yJ (kJ (.int 8)) wJ)))) wJ) nY) (zV 3) (nG))
def vP:AF:=(AJ (vJ 2))
def tP:AF:=zF (vN) (zF (vO) (zF (oM) ((vP))))
def kZ(ds:X0)(S:Sto):R Er:=zT (tP (zM [Ŗ,"_law_letters",Ŧ,Š] ds) S)
def aX:AY:=(CJ (fJ 2 zC (yJ (vJ 0) (yJ (kJ (.int 4)) wJ))) 4)
def aY:AY:=(CJ (dJ Cp (fJ 2 zC (yJ (vJ 0) (yJ (kJ (.int 9)) wJ))) (kJ (.int 4))) 5)
def gH:AY:=(iJ (bJ (dJ BG (vJ 4) ↑18) gY) ((CJ (dJ jU (dJ Cp (fJ 2 zC (yJ (vJ 0) (yJ (dJ Cp (dJ BF (kJ (.int 2)) (dJ Hd (kJ (.int 10)) (kJ (.int 30)))) ↑18) wJ))) (dJ Hd (kJ (.int 10)) (kJ (.int 30)))) ↑18) 5)) (JJ))
def gI:AY:=(iJ (bJ (dJ zBZ (vJ 4) ↑18) gY) ((CJ (fJ 1 kZ ↑41) 5)) (JJ))
def gM:AY:=(iJ (bJ (dJ (KQ true) (vJ 5) (vJ 2)) gY) ((BJ (eJ kH oF (vJ 2) (yJ (vJ 5) wJ)))) (JJ))
def nH:AY:=zF (aX) (zF (aY) (zF (gH) (zF (gI) ((gM)))))
def oN:AF:=(CJ (bJ wJ jN) 2)
def oO:AF:=(FJ (bJ ↑35 nY) (zV 3) (nH))
def oP:AF:=(AJ (vJ 2))
def mT:AF:=zF (oN) (zF (oO) ((oP)))
def gZ(ds:X0)(S:Sto):R Er:=zT (mT (zM [Ŗ,ŗ,Ś,Š,"_law_way","_law_value"] ds) S)
def bS:AY:=(CJ (dJ jU ↑18 (fJ 2 zC (yJ (vJ 0) (yJ (kJ (.int 4)) wJ)))) 3)
def bT:AY:=(BJ (eJ kH oF (vJ 1) (yJ (bJ (yJ (vJ 3) (yJ (fJ 2 zC (yJ (vJ 0) (yJ (dJ jU (vJ 3) ↑18) wJ))) wJ)) nW) wJ)))
def gN:AY:=zF (bS) ((bT))
def aZ:AF:=(CJ (bJ wJ jN) 1)
def eC:AF:=(FJ (bJ (yJ (dJ jU ↑18 (fJ 2 zC (yJ (vJ 0) (yJ (kJ (.int 4)) wJ)))) wJ) nY) (zV 2) (gN))
def eE:AF:=(AJ (vJ 1))
def oQ:AF:=zF (aZ) (zF (eC) ((eE)))
def nI(ds:X0)(S:Sto):R Er:=zT (oQ (zM [Ŗ,ř,Š,"_law_wide"] ds) S)
def iS:AZ:=uJ
def bU:AE:=(dJ jV (vJ 2) (fJ 2 zC (yJ (vJ 1) (yJ (bJ (yJ (vJ 2) wJ) nZ) wJ))))
def fE:AF:=(CJ (fJ 2 zC (yJ (vJ 0) (yJ (bJ ↑35 nZ) wJ))) 3)
def fF:AF:=(AJ (bJ (yJ (vJ 3) (yJ (bJ (yJ (pJ (bJ (yJ (dJ jV (dJ jV (vJ 1) (vJ 3)) ↑31) wJ) nY) (zV 0) (iS) (bU) 1 [0,2]) wJ) kG) wJ)) nW))
def qX:AF:=zF (fE) ((fF))
def qY(ds:X0)(S:Sto):R Er:=zT (qX (zM [Ŗ,ř,Ś,Ŷ] ds) S)
def gO:AZ:=uJ
def wI:AE:=(fJ 1 yA ↑41)
def gP:AY:=(CJ (fJ 3 qY (yJ (vJ 8) (yJ (vJ 2) (yJ (vJ 3) wJ)))) 9)
def wK:AY:=(iJ (rJ (bJ (dJ (KQ true) (vJ 9) (vJ 7)) gY) (bJ (dJ Hg (bJ (yJ (vJ 7) wJ) nZ) (vJ 4)) gY)) ((BJ (eJ kH oF (vJ 7) (yJ (vJ 9) wJ)))) (JJ))
def xI:AY:=zF (gP) ((wK))
def nN:AF:=(CJ (fJ 1 yA ↑35) 5)
def nO:AF:=(CJ (fJ 2 zC (yJ (vJ 5) (yJ (kJ (.int 20)) wJ))) 6)
def nP:AF:=(CJ (bJ wJ jN) 7)
def nQ:AF:=(FJ (bJ (dJ jU (pJ (bJ (vJ 0) GH) (zV 0) (gO) (wI) 1 []) (dJ BF (bJ (yJ (vJ 5) wJ) jN) (vJ 6))) GH) (zV 8) (xI))
def vQ:AF:=(AJ (vJ 7))
def mU:AF:=zF (nN) (zF (nO) (zF (nP) (zF (nQ) ((vQ)))))
def mV(ds:X0)(S:Sto):R Er:=zT (mU (zM [ŝ,Ź,ř,Ś,Ť,"_law_more",ŗ,Ţ,Ŗ,"_law_row_here"] ds) S)
def wM:AF:=(iJ (bJ (dJ BG (fJ 2 zC (yJ (vJ 0) (yJ (kJ (.int 4)) wJ))) ↑31) gY) ((AJ (bJ (yJ (kJ (.str [105,115])) (yJ (dJ jV (vJ 2) (fJ 2 zC (yJ (vJ 0) (yJ (bJ (yJ (vJ 2) wJ) nZ) wJ)))) wJ)) nW))) (JJ))
def nR:AF:=(AJ (bJ (yJ ↑61 (yJ (dJ jV (vJ 1) (fJ 2 zC (yJ (vJ 0) (yJ (bJ ↑35 nZ) wJ)))) wJ)) nW))
def bA:AF:=zF (wM) ((nR))
def mW(ds:X0)(S:Sto):R Er:=zT (bA (zM sX ds) S)
def dA:AZ:=uJ
def jD:AE:=(fJ 3 mW (yJ (vJ 1) (yJ (vJ 2) (yJ (vJ 3) wJ))))
def dB:AY:=(CJ (fJ 2 zC (yJ (vJ 0) (yJ (bJ ↑35 nZ) wJ))) 7)
def dC:AY:=(BJ (eJ kH oF (vJ 5) (yJ (bJ (yJ (vJ 7) (yJ (bJ (yJ (pJ (bJ (yJ (dJ jV (dJ jV (vJ 1) (vJ 7)) ↑31) wJ) nY) (zV 0) (dA) (jD) 1 [0,2,3]) wJ) kG) wJ)) nW) wJ)))
def bV:AY:=zF (dB) ((dC))
def iT:AF:=(CJ (bJ wJ jN) 5)
def iU:AF:=(FJ (bJ (yJ (vJ 4) wJ) nY) (zV 6) (bV))
def iV:AF:=(AJ (vJ 5))
def qZ:AF:=zF (iT) (zF (iU) ((iV)))
def fG(ds:X0)(S:Sto):R Er:=zT (qZ (zM [Ŗ,ř,Ş,Ś,ŗ,Ř,Š,Ŷ] ds) S)
def xN:AY:=(iJ (rJ (bJ (dJ BG (vJ 4) ↑61) gY) (bJ (dJ (KQ true) (vJ 5) (vJ 1)) gY)) ((BJ (eJ kH oF (vJ 1) (yJ (vJ 5) wJ)))) (JJ))
def yG:AY:=(xN)
def jQ:AY:=(FJ (bJ (vJ 3) ZE) ↑56 (yG))
def wW:AY:=(jQ)
def wX:AF:=(CJ (bJ wJ jN) 1)
def wY:AF:=(FJ (bJ (vJ 0) itQ) (iB 2 (zB (zV 2) (zB (zV 3) zY))) (wW))
def wZ:AF:=(AJ (vJ 1))
def gQ:AF:=zF (wX) (zF (wY) ((wZ)))
def yK(ds:X0)(S:Sto):R Er:=zT (gQ (zM [Ř,Ż,Ŷ,ţ,Ŧ,ż] ds) S)
def eF:AY:=(iJ (bJ (dJ KO (vJ 3) (bJ wJ jN)) gY) ((BJ (eJ kH oF (vJ 4) (yJ (eJ kH Di (vJ 3) (yJ (fJ 2 zC (yJ (vJ 0) (yJ (bJ (yJ (vJ 3) wJ) nZ) wJ))) wJ)) wJ)))) (JJ))
def nS:AY:=(eF)
def oR:AF:=(CJ (fJ 1 yK ↑35) 3)
def oS:AF:=(CJ (bJ wJ jN) 4)
def oU:AF:=(FJ (bJ (yJ (fJ 2 zC (yJ (vJ 0) (yJ (dJ jU (vJ 2) ↑18) wJ))) wJ) nY) (zV 5) (nS))
def oV:AF:=(AJ (vJ 4))
def mX:AF:=zF (oR) (zF (oS) (zF (oU) ((oV))))
def aK(ds:X0)(S:Sto):R Er:=zT (mX (zM [Ŗ,Ř,Ť,ź,ū,Š] ds) S)
def dD:AY:=(CJ (fJ 1 kZ ↑41) 4)
def jE:AY:=(iJ (bJ (dJ (KQ false) (vJ 4) (vJ 2)) gY) ((CJ (dJ jV (bJ (yJ (dJ jU (kJ (.str [98])) (vJ 1)) (yJ (dJ jU (dJ jU (kJ (.str [98])) (vJ 1)) (kJ (.str [97]))) wJ)) jN) (vJ 3)) 4)) (JJ))
def dE:AY:=(BJ (eJ kH oF (vJ 2) (yJ (vJ 4) wJ)))
def bW:AY:=zF (dD) (zF (jE) ((dE)))
def bX:AF:=(CJ (tJ OV (fJ 1 kZ ↑41) mJ (bJ (kJ (.int 6)) M5)) 1)
def bY:AF:=(iJ (bJ (dJ BG (fJ 2 zC (yJ (vJ 0) (yJ (kJ (.int 2)) wJ))) ↑31) gY) ((AJ (bJ (yJ (vJ 1) (yJ (dJ jU (vJ 1) (kJ (.str [97]))) (yJ (dJ jU (kJ (.str [98])) (vJ 1)) wJ))) jN))) (JJ))
def iW:AF:=(CJ (bJ ↑35 jN) 2)
def iY:AF:=(FJ (bJ (yJ (kJ (.int 2)) wJ) nY) (zV 3) (bW))
def iZ:AF:=(AJ (vJ 2))
def CN:AF:=zF (bX) (zF (bY) (zF (iW) (zF (iY) ((iZ)))))
def fH(ds:X0)(S:Sto):R Er:=zT (CN (zM [Ŗ,"_law_base",Ş,Š,ż] ds) S)
def dF:AY:=(iJ (bJ (bJ (yJ (vJ 2) (yJ (kJ (.typ "str")) wJ)) BM) pE) ((BJ (eJ kH oF (vJ 1) (yJ (bJ (yJ ↑18 (yJ ↑31 (yJ (vJ 2) wJ))) nW) wJ)))) ((BJ (eJ kH oF (vJ 1) (yJ (bJ (yJ ↑31 (yJ (vJ 2) (yJ (kJ (.str [])) wJ))) nW) wJ)))))
def bZ:AY:=(dF)
def cA:AF:=(CJ (bJ wJ jN) 1)
def lB:AF:=(FJ (bJ (vJ 0) ZE) (zV 2) (bZ))
def lD:AF:=(AJ (vJ 1))
def fI:AF:=zF (cA) (zF (lB) ((lD)))
def cB(ds:X0)(S:Sto):R Er:=zT (fI (zM [ŝ,"_law_marks","_law_value"] ds) S)
def gR:AY:=(EJ (dJ jV (vJ 0) (vJ 4)) (iB 2 (zB (zV 5) (zB (zV 6) zY))))
def xA:AY:=(iJ (sJ (rJ (bJ (dJ BG (vJ 5) (kJ (.str [105,115]))) gY) (bJ (dJ KO (vJ 6) (dJ jV (vJ 1) (vJ 4))) gY)) (rJ (bJ (dJ BG (vJ 5) ↑61) gY) (bJ (dJ KO (eJ KW CD (vJ 3) (yJ (vJ 6) (yJ (dJ jV (vJ 1) (vJ 4)) wJ))) (dJ jV (vJ 1) (vJ 4))) gY))) ((AJ (kJ .non))) (JJ))
def gT:AY:=(iJ (bJ (dJ BG (vJ 5) ↑61) gY) ((EJ (dJ jV (vJ 1) (vJ 4)) (DJ CC (vJ 3) (vJ 6)))) (JJ))
def yU:AY:=zF (gR) (zF (xA) ((gT)))
def nT:AF:=(CJ (bJ (yJ (vJ 2) wJ) TV) 3)
def nU:AF:=(FJ (bJ (yJ (bJ ↑35 nZ) wJ) nY) (zV 4) (yU))
def vR:AF:=(AJ (vJ 3))
def FQ:AF:=zF (nT) (zF (nU) ((vR)))
def mY(ds:X0)(S:Sto):R Er:=zT (FQ (zM [ţ,ŝ,ũ,"_law_wider",Š,Ŧ,ź] ds) S)
def dG:AZ:=uJ
def jF:AE:=(eJ KW CD (vJ 1) ↑41)
def pR:AY:=(CJ (kJ .non) 12)
def jG:AY:=(iJ (bJ (dJ BG (vJ 10) (vJ 6)) gY) ((CJ (fJ 3 mY (yJ (vJ 7) (yJ (vJ 11) (yJ (vJ 9) wJ)))) 12)) (JJ))
def jH:AY:=(iJ (bJ (dJ BH (vJ 12) (kJ .non)) gY) ((EJ (vJ 12) (DJ BU (vJ 8) (bJ (yJ (pJ (bJ (vJ 4) GH) (zV 0) (dG) (jF) 1 [12]) wJ) kG)))) (JJ))
def cC:AY:=zF (pR) (zF (jG) ((jH)))
def dH:AY:=(FJ (bJ (vJ 0) GH) (iB 2 (zB (zV 10) (zB (zV 11) zY))) (cC))
def cE:AY:=(dH)
def dI:AY:=(CJ zJ 8)
def dL:AY:=(FJ (bJ (vJ 5) GH) (zV 9) (cE))
def dM:AY:=(CJ (bJ (vJ 8) N4) 5)
def cF:AY:=zF (dI) (zF (dL) ((dM)))
def dN:AZ:=uJ
def jI:AE:=(dJ UA (vJ 1) (vJ 0))
def dO:AY:=(CJ (bJ (yJ (pJ (bJ (vJ 2) ZE) (zV 0) (dN) (jI) 1 [9]) wJ) kG) 14)
def dP:AY:=(iJ (bJ (dJ (KQ true) (vJ 14) (vJ 13)) gY) ((BJ (eJ kH oF (vJ 13) (yJ (vJ 14) wJ)))) (JJ))
def lE:AY:=zF (dO) ((dP))
def lF:AF:=(EJ (vJ 1) (iB 2 (zB (zV 2) (zB (zV 3) zY))))
def lG:AF:=(CJ (fJ 1 yK (yJ (vJ 3) wJ)) 4)
def lH:AF:=(CJ (bJ (yJ zJ wJ) jN) 5)
def lI:AF:=(FJ (bJ (vJ 3) ZE) (iB 2 (zB (zV 6) (zB (zV 7) zY))) (cF))
def lK:AF:=(CJ (bJ wJ jN) 13)
def lL:AF:=(FJ (bJ (vJ 5) GH) (zV 9) (lE))
def lN:AF:=(AJ (bJ (yJ (vJ 13) wJ) (FM true cB)))
def CO:AF:=zF (lF) (zF (lG) (zF (lH) (zF (lI) (zF (lK) (zF (lL) ((lN)))))))
def jK(ds:X0)(S:Sto):R Er:=zT (CO (zM [Ţ,ş,ū,Ř,Ş,"_law_some",Ŷ,ţ,"_law_more",ũ,"_law_u",ŝ,"_law_wider",Ż,"_law_answer"] ds) S)
def cG:AY:=(iJ (rJ (bJ (dJ BG (vJ 9) ↑61) gY) (bJ (dJ BG (vJ 10) (vJ 1)) gY)) ((CJ (vJ 2) 10)) (JJ))
def lO:AY:=(BJ (eJ kH oF (vJ 8) (yJ (bJ (yJ (vJ 9) (yJ (vJ 10) wJ)) nW) wJ)))
def fM:AY:=zF (cG) ((lO))
def lP:AY:=(CJ (bJ wJ jN) 8)
def lQ:AY:=(FJ (bJ (vJ 7) ZE) (iB 2 (zB (zV 9) (zB (zV 10) zY))) (fM))
def lR:AY:=(BJ (eJ kH oF (vJ 5) (yJ (bJ (yJ (vJ 6) (yJ (bJ (yJ (vJ 8) wJ) kG) wJ)) nW) wJ)))
def rA:AY:=zF (lP) (zF (lQ) ((lR)))
def cH:AZ:=(bJ (dJ KO (vJ 0) (vJ 1)) gY)
def lU:AE:=(vJ 0)
def rB:AF:=(EJ (vJ 0) ↑23)
def rC:AF:=(CJ (bJ wJ jN) 5)
def rD:AF:=(FJ (bJ (vJ 4) ZE) (iB 2 (zB (zV 6) (zB (zV 7) zY))) (rA))
def rE:AF:=(AJ (bJ (yJ (bJ (yJ (pJ (bJ (vJ 3) ZE) (zV 0) (cH) (lU) 1 [1]) wJ) kG) (yJ (bJ (yJ (vJ 5) wJ) kG) wJ)) nW))
def IX:AF:=zF (rB) (zF (rC) (zF (rD) ((rE))))
def rF(ds:X0)(S:Sto):R Er:=zT (IX (zM [ş,Ž,ž,ū,Ř,"_law_made",Ŷ,ţ,"_law_some",Ŧ,ż] ds) S)
def ER:AY:=(CJ (fJ 3 rF (yJ (vJ 6) (yJ (dJ jV (vJ 8) (vJ 9)) (yJ (dJ jV (vJ 8) (dJ jU (vJ 9) ↑18)) wJ)))) 10)
def ES:AY:=(CJ (fJ 3 xF (yJ (vJ 1) (yJ (dJ jV (vJ 10) ↑31) (yJ (dJ jV (vJ 10) ↑18) wJ)))) 11)
def ET:AY:=(iJ (sJ (bJ (dJ KO (vJ 11) (vJ 10)) gY) (bJ (dJ KO (fJ 2 cZ (yJ (vJ 7) (yJ (vJ 11) wJ))) (fJ 2 jK (yJ (vJ 7) (yJ (vJ 11) wJ)))) gY)) ((AJ (kJ (.bl false)))) (JJ))
def HB:AY:=zF (ER) (zF (ES) ((ET)))
def QF:AF:=(CJ (bJ (yJ (fJ 1 nI (yJ (fJ 1 yA (yJ (fJ 2 zR (yJ (vJ 0) (yJ ↑31 wJ))) wJ)) wJ)) wJ) kG) 1)
def QG:AF:=(CJ (fJ 2 gZ (yJ (fJ 1 yA (yJ (fJ 2 zR (yJ (vJ 0) (yJ ↑18 wJ))) wJ)) (yJ (kJ (.int 3)) wJ))) 2)
def QH:AF:=(CJ (fJ 1 fH (yJ (fJ 1 yA (yJ (fJ 2 zR (yJ (vJ 0) (yJ (kJ (.int 4)) wJ))) wJ)) wJ)) 3)
def QI:AF:=(BJ (eJ kH oF (vJ 3) (yJ (dJ jU (kJ (.str [99])) (dJ jV (vJ 3) ↑31)) wJ)))
def QJ:AF:=(CJ (fJ 1 yA (yJ (fJ 2 zR (yJ (vJ 0) (yJ (kJ (.int 2)) wJ))) wJ)) 4)
def QK:AF:=(CJ (fJ 5 fG (yJ (vJ 4) (yJ (vJ 1) (yJ (vJ 3) (yJ (vJ 2) (yJ (dJ jU ↑18 (fJ 2 zC (yJ (vJ 4) (yJ (kJ (.int 4)) wJ)))) wJ)))))) 5)
def QL:AF:=(CJ (fJ 3 xF (yJ (vJ 1) (yJ (fJ 3 aK (yJ (fJ 1 yA (yJ (fJ 2 zR (yJ (vJ 0) (yJ (kJ (.int 3)) wJ))) wJ)) (yJ (vJ 5) (yJ (kJ (.int 4)) wJ)))) (yJ (vJ 5) wJ)))) 6)
def QM:AF:=(CJ (fJ 5 mV (yJ (tJ OV (vJ 0) (bJ (kJ (.int 6)) M5) mJ) (yJ (fJ 2 zR (yJ (vJ 0) (yJ (kJ (.int 5)) wJ))) (yJ (vJ 1) (yJ (vJ 2) (yJ (kJ (.int 30)) wJ)))))) 7)
def QN:AF:=(iJ (bJ (dJ KO (fJ 2 cZ (yJ (vJ 7) (yJ (vJ 6) wJ))) (fJ 2 jK (yJ (vJ 7) (yJ (vJ 6) wJ)))) gY) ((AJ (kJ (.bl false)))) (JJ))
def IY:AF:=(CJ (fJ 1 yK (yJ (vJ 5) wJ)) 8)
def IZ:AF:=(FJ (bJ (yJ (dJ Cp (bJ (yJ (vJ 8) wJ) nZ) ↑18) wJ) nY) (zV 9) (HB))
def UI:AF:=(AJ (kJ (.bl true)))
def Ap:AF:=zF (QF) (zF (QG) (zF (QH) (zF (QI) (zF (QJ) (zF (QK) (zF (QL) (zF (QM) (zF (QN) (zF (IY) (zF (IZ) ((UI))))))))))))
def UJ(ds:X0)(S:Sto):R Er:=zT (Ap (zM [ś,ř,Ś,Ş,Ŗ,Ř,ş,Ţ,ź,Š,"_law_other","_law_made"] ds) S)
section
variable{r:R α}
theorem ev_v(e:ρ[i]? =some (some d)):vJ i ρ S=#[d,S,1]:=by unfold vJ;rw[e];rfl
def ev_b{f:Rho->Sto->R β}(e:f ρ S=.ok a S1)(k:F a S1=r):bJ f F ρ S=r:=by unfold bJ;rw[e];exact k
def ev_d(e:f ρ S=.ok p S1)(a:g ρ S1=.ok q S2)(k:F p q S2=z):dJ F f g ρ S=z:=by unfold dJ;rw[e,bB,a];exact k
def ev_i{f g:Rho->Sto->R α}(e:c ρ S=.ok k S1)(h:(if k=true then f ρ S1 else g ρ S1)=r):iJ c f g ρ S=r:=by unfold iJ;rw[e];exact h
def ev_f(e:a ρ S=.ok rs S1)(k:zE n F rs S1=z):fJ n F a ρ S=z:=by unfold fJ;rw[e];exact k
def ev_e(e:f ρ S=.ok p S1)(c:t p S1=true)(b:a ρ S1=.ok rs S2)(k:F p rs S2=z):eJ t F f a ρ S=z:=by unfold eJ;rw[e,bB,iP c,b];exact k
theorem ev_q{f:AZ}(e:f ρ S=.ok k S1):qJ f ρ S=.ok (!k) S1:=by unfold qJ;rw[e];rfl
def ev_r{f g:AZ}{r:R Bool}(e:f ρ S=.ok k S1)(h:(if k=true then g ρ S1 else .ok false S1)=r):rJ f g ρ S=r:=by unfold rJ;rw[e];exact h
def ev_s{f g:AZ}{r:R Bool}(e:f ρ S=.ok k S1)(h:(if k=true then .ok true S1 else g ρ S1)=r):sJ f g ρ S=r:=by unfold sJ;rw[e];exact h
theorem ev_y{g:↑43}(e:f ρ S=.ok p S1)(a:g ρ S1=.ok l S2):yJ f g ρ S=.ok (p::l) S2:=by unfold yJ;rw[e,bB,a];rfl
def ev_A(e:f ρ S=.ok p S1)(k:.ok (.ret p) S1=y):AJ f ρ S=y:=by unfold AJ;rw[e];exact k
def ev_B(e:f ρ S=.ok p S1)(k:#[ρ,S1,0]=y):BJ f ρ S=y:=by unfold BJ;rw[e];exact k
def ev_C(e:f ρ S=.ok p S1)(k:HW ρ i p S1=y):CJ f i ρ S=y:=by unfold CJ;rw[e];exact k
def ev_D{r:R Rho}(e:f ρ S=.ok p S1)(a:g ρ S1=.ok q S2)(k:F p q d ρ S2=r):DJ F f g d ρ S=r:=by unfold DJ;rw[e,bB,a];exact k
def ev_E{g:↑24}(e:f ρ S=#[d,S1,1])(k:g d ρ S1=.ok ρ' S2)(h:#[ρ',S2,0]=y):EJ f g ρ S=y:=by unfold EJ;rw[e];show(g d ρ S1).bind _=_;rw[k];exact h
def ev_F{g:↑24}(e:i ρ S=.ok k S1)(h:yZ g b k.gs k.ds ρ S1=y):FJ i g b ρ S=y:=by unfold FJ;rw[e];exact h
def zAQ(h:a=r):(if true=true then a else b)=r:=h
def zAR(h:b=r):(if false=true then a else b)=r:=h
def zAS[Decidable c](d: ¬c)(h:b=r):(if decide c=true then a else b)=r:=by rw[dF0 d];exact h
end
section
def modA(h:0<b:=by first |decide|omega):KN #[a,5] #[b,5] S=.ok #[a % b,5] S:=mod_lit h a S
def divA(h:0<b/\b<1073741824:=by first |decide|omega):SR #[a,5] #[b,5] S=.ok #[a / b,5] S:=PB h.1 h.2 a S
def mulB(h:0<=b/\b<4294967296:=by first |exact mdl|decide|omega):BF #[a,5] #[b,5] S=.ok #[a * b,5] S:=GS ⟨by lia,by lia⟩ a S
end
set_option bootstrap.genMatcherCode true in
local macro_rules
 | `(tactic|exists 7,$[$hs],*)=>`(tactic|first
  |(with_reducible first $[|exact $hs ..]*)
  |((with_reducible first |apply ev_v|apply ev_b|apply ev_d|apply ev_y|apply ev_f|apply ev_C|apply ev_A|apply ev_i|apply zAQ|apply zAR|apply ev_F|apply ev_p|apply ev_e|apply ev_B|apply ev_r|apply ev_s|apply ev_q|apply ev_a|apply ev_o|apply ev_n|apply ev_t|apply ev_g|apply ev_E|apply ev_D)<;>exists 7,$[$hs],*)
  |(with_reducible first |exact eq_int .. |exact tup2 .. |exact X8 .. |exact X5 .. |exact lst1 .. |exact X6 .. |exact X7 ..)
  |(with_reducible show KN _ _ _=_);exact modA
  |(with_reducible show SR _ _ _=_);exact divA
  |(with_reducible show BF _ _ _=_);(first |exact mulA|exact mulB)
  |(with_reducible show nY _ _=_);exact sP (by omega)
  |(with_reducible show yD _ _ _ _ _ _ _=_);(first $[|exact $hs]*)
  |(with_reducible show yZ _ _ _ _ _ _=_);(first $[|exact $hs]*)
  |(with_reducible first $[|exact of_eq_true $hs]* $[|refine ite_d $hs ?_]* $[|refine zAS $hs ?_]* $[|refine(iP $hs).trans ?_]* $[|refine(iN $hs).trans ?_]*)<;>exists 7,$[$hs],*
  |exact rfl)
def Rm(h:Os 0 b)(a)(S):SR #[a,5] #[b,5] S=.ok #[a / b,5] S:=iP h
def xO(a:S[l]? =#[ds,2])(hz:↑12<1000000):oF #[l,1] [.val d] S=#[.non,S.set l (.lst (ds++[d])),1]:=by show Cu #[l,1] S (λds=>if ↑12<sizeLine then some _ else none)=_;unfold Cu;dsimp only;rw[a];dsimp only;rw[iP (ç hz (fits (à _)))]
theorem yX(a:S[l]? =#[ds,2]):kH #[l,1] S=true:=by unfold kH;rw[pH a];rfl
def Jx(a:S[l]? =#[ds,2])(b:NW ↑12 k=some j):LZ #[l,1] #[k,5] d ρ S=.ok ρ (S.set l (.lst (ds.set j d))):=by unfold LZ;dsimp only;rw[a];dsimp only;rw[b]
def get_set{S:Sto}(h:S[l]? =some o):(S.set l o')[l]? =some o':=ğ (gS.mp h).1
def AR{S:Sto}(h:l≠m):(S.set l o')[m]? =S[m]? :=Ġ h
def EU(a:S[l]? =#[ds,2]):kG [#[l,1]] S=.ok #[ds,6] S:=by show(match jO S _ with |some ds=>R.ok _ S|none=>.no)=_;rw[pH a]
theorem CP(ds)(S):nZ [#[ds,6]] S=.ok #[↑12,5] S:=rfl
theorem rG(gf)(ρ)(d)(S):Oe gf ρ (.val d) S=(gf d ρ S).bind λρ' S2=>#[ρ',S2,0]:=rfl
noncomputable def tbl(p:Int×Int):MV:=.tup [.int p.1,.int p.2]
def Jy(ts:Tk):Prop:=1<=ts.length/\ts.length<=4/\ ∀p∈ts,1<=p.1/\p.1<=4/\0<=p.2/\p.2<=p.1
mutual
def pd:MV->Bool
 |.int _=>true
 |.str _=>true
 |.tup ds=>VX ds
 |_=>false
def VX:List MV->Bool
 |[]=>true
 |d::ds=>pd d&&VX ds
end
mutual
def DR:MV->Nat
 |.tup ds=>EV ds+1
 |_=>0
def EV:List MV->Nat
 |[]=>0
 |d::ds=>max (DR d) (EV ds)
end
def wA(ds):pd (.tup ds)=VX ds:=by rw[pd]
def yE(d)(ds):VX (d::ds)=(pd d&&VX ds):=by rw[VX]
def xP(ds):DR (.tup ds)=EV ds+1:=by rw[DR]
def yH(d)(ds):EV (d::ds)=max (DR d) (EV ds):=by rw[EV]
def tQ:EV []=0:=by rw[EV]
def tR(i):pd (.str i)=true:=by rw[pd]
def rH(i):DR (.int i)=0:=by simp[DR]
def fN(i):DR (.str i)=0:=by simp[DR]
theorem cI: ∀{ds},(∀d∈ds,pd d=true)->VX ds=true
 |[],_=>(by rw[VX])
 |d::ds,h=>by rw[yE,h d mF0,cI λe j=>h e (mO _ j)];rfl
theorem QO: ∀{ds},VX ds=true-> ∀d∈ds,pd d=true
 |[],_,d,h=>by simp at h
 |e::ds,hp,d,h=>by
  rw[yE,aE]at hp;rcases mC.mp h with rfl|h
  .exact hp.1
  .exact QO hp.2 d h
theorem mZ: ∀{ds}{n},(∀d∈ds,DR d<=n)->EV ds<=n
 |[],n,_=>by rw[tQ];exact zero_le _
 |d::ds,n,h=>by
  rw[yH];have j:=h d mF0;have b:=mZ λe a=>h e (mO _ a)
  lia
theorem UK: ∀{ds}, ∀d∈ds,DR d<=EV ds
 |[],d,h=>by simp at h
 |e::ds,d,h=>by
  rcases mC.mp h with rfl|h
  .exact Nat.le_max_left _ _
  .exact ô (UK d h) (Nat.le_max_right _ _)
def UL(h:pd d=true):(∃i,d=.int i)\/(∃x,d=.str x)\/ ∃ds,d=.tup ds/\VX ds=true:=by
 cases d with
 |int i=>exact .inl ⟨i,rfl⟩
 |str x=>exact .inr (.inl ⟨x,rfl⟩)
 |tup ds=>exact .inr (.inr ⟨ds,rfl,by rw[<-wA];exact h⟩)
 |_=>rw[pd]at h<;>first |cases h|(intros;simp)
def dec_is[Decidable p][Decidable q](h:p↔q):decide p=decide q:=by
 by_cases a:q
 .rw[dT0 a,dT0 (h.mpr a)]
 .rw[dF0 a,dF0 λz=>a (h.mp z)]
theorem JA: ∀{ds es},(∀d∈ds, ∀f∈es,e d f=some (decide (d=f)))-> ∃bs,GI e ds es=some bs/\(bs.all id&&↑12==es.length)=decide (ds=es)
 |[],[],_=>⟨[],rfl,by simp⟩
 |[],_::_,_=>⟨[],rfl,by simp⟩
 |_::_,[],_=>⟨[],rfl,by simp⟩
 |d::ds,f::es,h=>by
  refine(JA λa i b k=>h a (mO _ i) b (mO _ k)).a λbs j m=>?_;refine⟨decide (d=f)::bs,?_,?_⟩
  .unfold GI;rw[h d mF0 f mF0,j];rfl
  .by_cases c:d=f
   .subst c;rw[List.all_cons,dT0 rfl];simp only[id,Bool.true_and,lC];rw[show(↑12+1==es.length+1)=(↑12==es.length) by simp,m];exact dec_is (by simp)
   .rw[dF0 c];rw[dF0 (λz=>c (List.cons.inj z).1)];rfl
theorem tS: ∀ n {d e},pd d=true->pd e=true->DR d<n->eqv S n d e=some (decide (d=e))
 |0,d,e,_,_,h=>by lia
 |n+1,d,e,hd,he,h=>by
  rcases UL hd with⟨i,rfl⟩|⟨x,rfl⟩|⟨ds,rfl,pds⟩<;>rcases UL he with⟨j,rfl⟩|⟨y,rfl⟩|⟨es,rfl,pes⟩
  .rw[OZ];exact congrArg some (dec_is (by simp))
  .rw[Zd,dF0 (by simp)]
  .rw[dF0 (by simp)];rfl
  .rw[Ze,dF0 (by simp)]
  .rw[GR];exact congrArg some (dec_is (by simp))
  .rw[dF0 (by simp)];rfl
  .rw[dF0 (by simp)];rfl
  .rw[dF0 (by simp)];rfl
  .rw[xP]at h;obtain⟨bs,m,q⟩:=JA λa c b k=>tS n (QO pds a c) (QO pes b k) (by have:=UK a c;lia);show((GI _ ds es).map λbs=>bs.all id&&↑12==es.length)=_;rw[m];show some (bs.all id&&↑12==es.length)=_;rw[q];exact congrArg some (dec_is (by simp))
theorem UM(a:pd d=true): ∀{ys},(∀y∈ys,pd y=true/\DR y<40)->SS S zK d ys=some (ys.map λy=>decide (y=d))
 |[],_=>rfl
 |y::ys,h=>by have j:=h y mF0;unfold SS;rw[tS zK j.1 a (by unfold zK;exact j.2),UM a λz b=>h z (mO _ b)];rfl
theorem le_int(i j)(S):RO #[i,5] #[j,5] S=#[.bl (decide (i<=j)),S,1]:=rfl
def fO(hn:↑58=n)(a:F (zG rs S).1 (zG rs S).2=#[.bl b,S,1]):zE n F rs S=#[.bl b,S,1]:=cV hn a (Hx _ _) (λl=>by simp)
def JB: ∀{n}{S},WV [.new (List.replicate n (.bl true))] S=#[.bl true,S,1]:=by
 intro n S
 have h: ∀n:Nat,BL (List.replicate n (.bl true))=some (List.replicate n true):=by
  intro n
  induction n with
  |zero=>rfl
  |succ n ih=>rw[ē,ē];unfold BL;rw[ih];rfl
 show(match (some (List.replicate n (MV.bl true))).bind BL with |some bs=>R.ok (Er.val (.bl (bs.all id))) S|none=>.no)=_;rw[show(some (List.replicate n (MV.bl true))).bind BL=some (List.replicate n true)from h n];show R.ok (Er.val (.bl ((List.replicate n true).all id))) S=_;rw[show(List.replicate n true).all id=true by simp]
def JC{ds:X0}:ds.map (λ_=>MV.bl true)=List.replicate ↑12 (.bl true):=by
 induction ds with
 |nil=>rfl
 |cons d ds ih=>rw[å,lC,ē,ih]
def SqM(S:Sto)(m:MV)(ds:X0):Prop:=m=.tup ds\/ ∃l,m=.loc l/\S[l]? =#[ds,2]
def SqM.len(h:SqM S m ds):nZ [.val m] S=.ok #[↑12,5] S:=by
 rcases h with rfl|⟨l,rfl,hS⟩
 .rfl
 .exact gA hS
def SqM.app(h:SqM S m ds):SqM (S++T) m ds:=by
 rcases h with h|⟨l,h,hS⟩
 .exact .inl h
 .exact .inr ⟨l,h,by rw[â (gS.mp hS).1];exact hS⟩
def cJ(hn:↑58=n)(d:zG rs S=(as,S2))(c:F as S2=.ok r (S++T))(b:r=.new ds\/ ∃l,r=#[l,1]/\↑1<=l/\(S++T)[l]? =#[ds,2])(h:AW ↑1 ds):zE n F rs S=#[ds,S,2]:=by
 have a:F (zG rs S).1 (zG rs S).2=.ok r (S++T):=by rw[d];exact c
 rcases b with rfl|⟨l,rfl,h1,h2⟩
 .exact BP hn a h
 .exact IB hn a h1 h2 h
theorem Rp(neg)(p)(l)(S):KQ neg p #[l,1] S=OW neg p #[l,1] S:=by
 unfold KQ;split
 .rename_i h;cases h
 .rfl
def oA(neg)(c:S[l]? =#[ys,2])(i:pd d=true)(h: ∀y∈ys,pd y=true/\DR y<40):KQ neg (.val d) #[l,1] S=#[.bl (if neg=true then !decide (d∈ys)else decide (d∈ys)),S,1]:=by
 have a:itemsOf S #[l,1]=some ys:=by unfold itemsOf;exact pH c
 rw[Rp];unfold OW;rw[a];dsimp only;rw[UM i h];dsimp only
 have b:(ys.map λy=>decide (y=d)).any id=decide (d∈ys):=by
  rw[List.any_map];by_cases hm:d∈ys
  .rw[dT0 hm,List.any_eq_true];exact⟨d,hm,by simp⟩
  .rw[dF0 hm];rw[List.any_eq_false];intro y e;simp only[Function.comp,id,decide_eq_true_eq];rintro rfl;exact hm e
 rw[b]
theorem gt_int(i j)(S):zBZ #[i,5] #[j,5] S=#[.bl (decide (j<i)),S,1]:=rfl
noncomputable abbrev KD:List Nat:=[118,97,114]
noncomputable abbrev IS:List Nat:=[105,115]
def xK(d:MV):Prop:=(∃x,d=.tup [.str KD,.str x])\/ ∃v,((∃i,v=.int i)\/ ∃x,v=.str x)/\d=.tup [.str IS,v]
mutual
theorem lV{n:Nat}: ∀{d:MV},pd d=true->lo n d
 |.int i,_=>DZ n i
 |.str x,_=>WY n x
 |.tup ds,h=>XA (QP (by rw[wA]at h;exact h))
 |.non,_=>WZ n
 |.bl b,_=>Hx n b
 |.scr ds,h=>by unfold pd at h;cases h
 |.loc l,h=>by unfold pd at h;cases h
 |.typ t,h=>by unfold pd at h;cases h
theorem QP{n:Nat}: ∀{ds:X0},VX ds=true->AW n ds
 |[],_=>aM λd j=>by simp at j
 |d::ds,h=>by rw[yE,aE]at h;unfold AW;exact⟨lV h.1,QP h.2⟩
end
def MW(h:xK d):pd d=true/\DR d<=1:=by
 rcases h with⟨x,rfl⟩|⟨v,⟨i,rfl⟩|⟨x,rfl⟩,rfl⟩
 .exact⟨by rw[wA,yE,yE];rfl,by rw[xP,yH,yH,fN,fN];decide⟩
 .exact⟨by rw[wA,yE,yE];rfl,by rw[xP,yH,yH,rH];decide⟩
 .exact⟨by rw[wA,yE,yE];rfl,by rw[xP,yH,yH,fN,fN];decide⟩
def vn:MV->Option (List Nat)
 |.tup [.str w,.str x]=>if w=KD then some x else none
 |_=>none
def EW(x):vn (.tup [.str KD,.str x])=some x:=show(if KD=KD then some x else none)=_ from iP rfl
def FS(S):BG (.val (.str KD)) (.val (.str KD)) S=#[.bl true,S,1]:=by rw[eq_str,dT0 rfl]
def JD(S):BG (.val (.str IS)) (.val (.str KD)) S=#[.bl false,S,1]:=by rw[eq_str,dF0 ↑11]
def Ua(S):BG (.val (.str IS)) (.val (.str IS)) S=#[.bl true,S,1]:=by rw[eq_str,dT0 rfl]
def zL(S)(o:MO):(S++[o])[↑1]? =some o:=by simp
def wL(S)(o a:MO):(S++[o]).set ↑1 a=S++[a]:=by simp
def CQ{fs:Ch}: ∀y∈fs.map MV.str,pd y=true/\DR y<40:=λd a=>by refine(mM.mp a).a λu _ b=>?_;subst b;exact⟨tR u,by rw[fN];decide⟩
def CS{fs:Ch}:MV.str x∈fs.map MV.str↔x∈fs:=⟨λh=>by refine(mM.mp h).a λu a e=>?_;cases e;exact a,λh=>mM.mpr (Z3 x h rfl)⟩
theorem JE(a b)(S):jV #[[a,b],6] #[0,5] S=#[a,S,1]:=rfl
theorem LA(a b)(S):jV #[[a,b],6] #[1,5] S=#[b,S,1]:=rfl
def SqM.itQ(h:SqM S m ds): ∃j,(∀T,stay j (S++T))/\ ∀T,itQ (.val m) (S++T)=.ok ⟨ds,j⟩ (S++T):=by
 rcases h with rfl|⟨l,rfl,hS⟩
 .exact(Z3 ([]) (λT=>wQ _) (λT=>rfl))
 .have hT: ∀T,(S++T)[l]? =some _:=λT=>by rw[â (gS.mp hS).1];exact hS
  refine Z3 ([_]) (λT=>yN (hT T)) (λT=>?_);have e:srcOf (S++T) #[l,1]=some ⟨true,ds,[(l,ds)]⟩:=by unfold srcOf;dsimp only;rw[hT T]
  unfold L2.M.itQ;rw[e]
def JF(h:(look kvs k).isSome=true):k∈kvs.map (·.1):=by unfold look at h;rw[Option.isSome_map]at h;obtain⟨p,a⟩:=î.mp h;have b:=List.find?_some a;exact mM.mpr ⟨p,List.mem_of_find?_eq_some a,ė b⟩
def tup2(a b)(S):nW [.val a,.val b] S=.ok #[[a,b],6] S:=XC (by simp)
theorem oW(ds)(S):ZE #[ds,6] S=.ok ⟨ds,[]⟩ S:=rfl
def lst1(a)(S):jN [.val a] S=#[[a],S,2]:=EA (by simp)
noncomputable def AS(ks:Ch)(x:Db):List (List Nat):=if x∈ks then ks else ks++[x]
def Jz(ks)(x y):y∈AS ks x↔y∈ks\/y=x:=by
 unfold AS;split
 .rename_i h;exact⟨.inl,λz=>z.elim id λe=>e▸h⟩
 .rw[ê,mS]
theorem JG(ks)(x):(AS ks x).length<=ks.length+1:=by
 unfold AS;split
 .lia
 .rw[lA,lS];lia
def yP(ks xs:Ch):List (List Nat):=xs.foldl AS ks
theorem cK: ∀ xs ks  y ,y∈yP ks xs↔y∈ks\/y∈xs
 |[],ks,y=>by simp[yP]
 |x::xs,ks,y=>by show y∈yP _ xs↔_;rw[cK xs,Jz,mC,or_assoc]
theorem uT: ∀ xs {ks},ks.Nodup->(yP ks xs).Nodup
 |[],_,h=>h
 |x::xs,_,h=>uT xs ((by
   unfold AS;split
   .exact h
   .rename_i j;exact ĥ.mpr ⟨h,by simp,λa m b q=>by rw[mS.mp q];rintro rfl;exact j m⟩))
theorem tU: ∀ xs ks ,(yP ks xs).length<=ks.length+↑8
 |[],ks=>à _
 |x::xs,ks=>by
  have j:=tU xs (AS ks x);have a:=JG ks x;show(yP _ xs).length<=_;rw[lC]
  lia
noncomputable def dT(ks:Ch):List (MV×MV):=ks.map λx=>(.str x,.bl true)
theorem Aq(ks):(dT ks).map (·.1)=ks.map MV.str:=by unfold dT;rw[ħ];rfl
def Rr(ks)(x):(look (dT ks) (.str x)).isSome=decide (x∈ks):=by
 by_cases h:x∈ks
 .rw[dT0 h];unfold look;rw[Option.isSome_map,List.find?_isSome];exact⟨_,mM.mpr ⟨x,h,rfl⟩,by simp⟩
 .rw[dF0 h]
  cases z:(look _ _).isSome with
  |false=>rfl
  |true=>
   have:=JF z;rw[Aq]at this;exact absurd (CS.mp this) h
theorem F3(ks)(x):putK (dT ks) (.str x) (.bl true)=dT (AS ks x):=by
 unfold putK AS;rw[Rr];by_cases h:x∈ks
 .rw[iP h,iP (dT0 h)];unfold dT;rw[ħ];refine Ė λy _=>?_;show(if MV.str y=MV.str x then _ else _)=_;split<;>rfl
 .rw[iN h,iN (by rw[dF0 h];exact xF0)];unfold dT;rw[ñ];rfl
theorem Ub(ks):(dT ks).all (λp=>vB p.1)=true:=by unfold dT;rw[all_map,ÿ];intro x _;rfl
def Ka(h:S[l]? =#[kvs,7])(a:kvs.all (λp=>vB p.1)=true):CB S #[l,1]=some (l,kvs):=by unfold CB;dsimp only;rw[h];dsimp only;rw[iP a]
def Rt(h:S[l]? =#[dT ks,7])(a:ks.length<1000000)(x)(ρ):CC #[l,1] (.val (.str x)) (.bl true) ρ S=.ok ρ (S.set l (.dic (dT (AS ks x)))):=by unfold CC;rw[Ka h (Ub ks)];dsimp only;rw[iP ⟨rfl,by unfold dT;rw[lM];exact a⟩,F3]
def Kb(h:S[l]? =#[dT ks,7]):EF [#[l,1]] S=#[ks.map MV.str,S,2]:=by unfold EF;dsimp only;rw[Ka h (Ub ks)];dsimp only;rw[Aq]
theorem fV{α:Type}{f g:α->MV}(hs:stay gs S):
  ∀{ds:List α},(∀d∈ds, ∃j,gf (f d) ρb S=.ok j S/\cf j S=.ok true S/\ef j S=#[g d,S,1])->yD gf cf ef ρb gs (ds.map f) S=.ok (ds.map g) S
 |[],_=>rfl
 |d::ds,st=>by refine(st d mF0).b λj m q u=>?_;rw[å];unfold yD;rw[m,yS,bB,q,yS,bB,u,yS,bB];unfold kE;rw[bB,iP hs,(fV hs λd a=>st d (mO _ a))];rfl
theorem MX(ds:List α)(j:Nat):rY ds (some  j ) none=ds.drop j:=by
 unfold rY;rw[HT.sIx_nat];by_cases h:j<=↑12
 .rw[min_eq_left h,ĉ (by rw[ą];exact à _)]
 .rw[Nat.min_eq_right #[],drop_of_length_le (à _),drop_of_length_le #[],List.take_nil]
def JH{k:Nat}(h:xs[k]? =some x):uY xs  k =some x:=L2.atI_nat h
theorem Ru(ds)(l h)(S):OV #[ds,6] l h S=.ok #[rY ds l h,6] S:=rfl
noncomputable abbrev eH(k:Nat):MV:=.int (k:Int)
theorem Kc{n:Nat}(h:n<=1000)(S):nY [.val (.int  n )] S=.ok ⟨(List.range n).map eH,[]⟩ S:=by rw[sP #[],Ĉ]
theorem JK{α:Type}{f g:α->MV}{p:α->Bool}(hs:stay gs S):
  ∀{ds:List α},(∀d∈ds, ∃j,gf (f d) ρb S=.ok j S/\cf j S=.ok (p d) S/\ef j S=#[g d,S,1])->yD gf cf ef ρb gs (ds.map f) S=.ok ((ds.filter p).map g) S
 |[],_=>rfl
 |d::ds,st=>by
  refine(st d mF0).b λj m q u=>?_;have e:=JK hs λd b=>st d (mO _ b);rw[å];unfold yD
  cases a:p d with
  |true=>
   rw[m,yS,bB,q,yS,bB,a,u,yS,bB];unfold kE;rw[bB,iP hs,e,List.filter_cons_of_pos a];rfl
  |false=>
   rw[m,yS,bB,q,yS,bB,a,iN xF0,iP hs,e,List.filter_cons_of_neg (by rw[a];exact xF0)]
def lW(S T)(o:MO):(S++o::T)[↑1]? =some o:=by simp
def QQ(S T)(o a:MO):(S++o::T).set ↑1 a=S++a::T:=by simp
theorem UN(hn:↑58=n)(a:F (zG rs S).1 (zG rs S).2=.ok #[↑1,1] (S++.dic kvs::T)):zE n F rs S=.ok #[↑1,1] (S++.dic kvs::T):=by
 unfold zE;rw[iP hn,a];show jL S _ _=_;unfold jL;dsimp only;split
 .rw[iN (ĵ _),lW]
 .rfl
def Ar(h:S[l]? =#[ds,2]):pE #[l,1] S=.ok (!ds.isEmpty) S:=by unfold pE;dsimp only;rw[h]
noncomputable def abc:List Nat:=[97,98,99,100,101,102,103,104,105,106,107,108,109,110,111,112,113,114,115,116,117,118,119,120,121,122]
def uU(ws:Ch)(n):AW n #[ws,8]:=aM λd a=>by refine(mM.mp a).a λx _ b=>?_;subst b;exact WY _ _
abbrev VS(v:MV):Prop:=(∃i,v=.int i)\/ ∃x,v=.str x
def eK(h:VS v):pd v=true/\DR v<40:=by
 rcases h with⟨i,rfl⟩|⟨x,rfl⟩
 .exact⟨(by rw[pd]),by rw[rH];decide⟩
 .exact⟨tR x,by rw[fN];decide⟩
theorem Ke(a:S[l]? =#[ds,2]):KO #[l,1] (.new []) S=#[.bl (!ds.isEmpty),S,1]:=by
 have e:OQ S #[l,1]=some (.ls ds):=by show(jO S _).map Vw.ls=_;rw[pH a];rfl
 unfold KO GK;rw[e]
 cases ds with
 |nil=>rfl
 |cons d ds=>rfl
theorem uV(a:Za)(k)(o:0<=k)(S): ∃c,zE 2 zR [.val (.scr (a.map MV.int)),#[k,5]] S=.ok #[c,5] S:=by
 have i:nZ [.val (.scr (a.map MV.int))] S=.ok #[↑67,5] S:=by show R.ok _ S=_;rw[lM]
 have j:jC [some (.scr (a.map MV.int)),#[k,0]] S=if decide (k<↑67)=true then(jV (.val (.scr (a.map MV.int))) #[k,5] S).bind λr p=>.ok (.ret r) p else #[[some (.scr (a.map MV.int)),#[k,0]],S,0]:=by unfold jC;exists 7,i,lt_int
 have fin: ∀c,zR [.scr (a.map MV.int),.int k] S=.ok _ S-> ∃c,zE 2 zR [.val _,.val _] S=#[_,S,1]:=λc h=>⟨c,cV rfl h (DZ _ _) (λl=>by simp)⟩
 have hs:zM [ś,Š] [.scr (a.map MV.int),.int k]=[some _,some _]:=rfl;by_cases b:k<↑67
 .obtain⟨d,n⟩:=PC (xs:=a.map MV.int) o (by rw[lM];exact b);obtain⟨c,rfl⟩: ∃c,d=.int c:=PD (P:=λd=> ∃c,d=.int c) (λe q=>by refine(mM.mp q).a λc _ g=>?_;subst g;exact⟨c,rfl⟩) n;have m:jV (.val (.scr (a.map MV.int))) #[k,5] S=.ok #[c,5] S:=by show(match uY _ k with |some d=>R.ok (Er.val d) S|none=>.no)=_;rw[n]
  refine fin c ?_;rw[dT0 b,m,bB]at j;unfold zR bO;rw[hs,bG j];rfl
 .refine fin 0 ?_;rw[dF0 b]at j;unfold zR bO;rw[hs,zD j];rfl
theorem zAU(S):Hd #[10,5] #[30,5] S=.ok #[10 ^ 30,5] S:=rfl
theorem tV(S)(a b:MO):(S++[a,b])[↑1+1]? =some b:=by rw[æ #[],show ↑1+1 - ↑1=1 by lia];rfl
theorem Kf: ∀(fs:Ch) i ,(fs.map MV.str).eraseIdx i=(fs.eraseIdx i).map MV.str
 |[],_=>rfl
 |_::_,0=>rfl
 |c::fs,i+1=>congrArg _ (Kf fs i)
theorem Rx(c:S[l]? =#[ds,2])(e:0<=i)(b:i<↑12)(j:↑12<1000)(h:ds[i.toNat]? =some d):Di #[l,1] [#[i,5]] S=#[d,S.set l (.lst (ds.eraseIdx i.toNat)),1]:=by
 have a:NW ↑12 i=some i.toNat:=by unfold NW;rw[iP e,iP b]
 unfold Di;dsimp only;rw[c];dsimp only;rw[iP ⟨by lia,by lia⟩,a];dsimp only;rw[h]
theorem XZ{B:Sto}(h:↑5=n):(B++L)[n+i]? =L[i]? :=by rw[æ #[],h,Nat.add_sub_cancel_left]
def zU{B:Sto}{m:Nat}(h:B[m]? =some o):(B++L)[m]? =some o:=by rw[â (gS.mp h).1];exact h
def zA(h:F ρ S=#[ρ',S',0])(k:G ρ' S'=r):zF F G ρ S=r:=(zD h).trans k
theorem wC(h:X=.ok (.ret r) S):zT X=.ok r S:=by rw[h];rfl
theorem fP(I:Nat->Rho->Sto->Prop): ∀ L  i {j}{S},i+L.length<=n->I i j S->(∀d∈L, ∀i,i<n-> ∀j S,I i j S-> ∃m ρ' S',gf d j S=.ok m S/\body m S=#[ρ',S',0]/\I (i+1) ρ' S')-> ∃ρ' S',yZ gf body [] L j S=#[ρ',S',0]/\I (i+L.length) ρ' S'
 |[],i,j,S,_,h,_=>(YS j S rfl h)
 |d::L,i,j,S,hn,h,st=>by rw[lC]at hn ⊢;refine(st d mF0 i #[] j S h).g λm z G g=>g.e λq u B=>?_;refine(fP I L _ #[] B λe a=>st e (mO _ a)).d λρ' S' b c=>?_;exact YS (ρ') S' (by rw[zW q u (wQ _),b]) (by rw[show i+_=i+1+L.length by lia];exact c)
theorem md{x:Int}(h:0<n:=by decide):0<=x % n/\x % n<n:=⟨eN _ #[],eL _ h⟩
section
theorem CT(c:gf d ρb S=.ok ρ1 S)(e:cf ρ1 S=.ok true S)(h:ef ρ1 S=#[y,S1,1])(b:stay gs S1)(a:yD gf cf ef ρb gs ds S1=.ok out S2):yD gf cf ef ρb gs (d::ds) S=.ok (y::out) S2:=by unfold yD;rw[c,yS,bB,e,yS,bB,h,yS,bB];unfold kE;rw[bB,iP b,a];rfl
def As(a:gf d ρb S=.ok ρ1 S)(c:cf ρ1 S=.ok false S)(e:stay gs S)(b:yD gf cf ef ρb gs ds S=.ok out S2):yD gf cf ef ρb gs (d::ds) S=.ok out S2:=by unfold yD;rw[a,yS,bB,c,yS,bB,iN xF0,iP e,b]
end
noncomputable abbrev Wl(S:Sto)(l:Nat)(x:Int):Sto:=S.set l (.lst [.int x])
def Kg(h:l<↑1)(x):(Wl S l x)[l]? =#[[.int x],2]:=ğ h
def tW(h:l≠m)(x):(Wl S l x)[m]? =S[m]? :=Ġ h
def Uc(S)(l)(x y):(Wl S l x).set l (.lst [.int y])=Wl S l y:=List.set_set ..
def dQ(S)(l)(x):(Wl S l x).length=S.length:=ċ ..
def pS(S)(x):S++[.lst [.int x]]=Wl (S++[.lst []]) ↑1 x:=by simp[Wl]
def eI(h:l<↑1)(x)(T):Wl S l x++T=Wl (S++T) l x:=by unfold Wl;rw[ĸ _ _ h]
theorem QR(h:l<↑1)(x)(o o'):(Wl (S++[o]) l x).set ↑1 o'=Wl (S++[o']) l x:=by unfold Wl;rw[ĸ _ _ h,ĸ _ _ h];rw[Ī _ _ (by rw[ċ];exact à _),ċ,sub_self];rfl
def CV(h:l<↑1)(x)(o):(Wl (S++[o]) l x)[↑1]? =some o:=by rw[tW (é h)];simp
def F4(x)(T):SO S (Wl S l x++T):=by
 refine⟨by rw[lA,dQ];exact ě _ _,λm hm=>?_⟩;rw[â (by rw[dQ];exact hm)];by_cases e:l=m
 .subst e;exact .inr ⟨_,Kg hm x,aM λe a=>by rw[mS.mp a];exact DZ _ _⟩
 .exact .inl (tW e x)
def Au(y x)(T):SO (Wl S l y) (Wl S l x++T):=by have:=F4 (S:=Wl S l y) (l:=l) x T;rw[show Wl _ l x=Wl S l x from Uc S l y x]at this;exact this
def Av(S)(l)(x)(T)(h:n=↑1):(Wl S l x++T).take n=Wl S l x:=by rw[h,List.take_append_of_le_length (by rw[dQ];exact à _),ĉ (by rw[dQ];exact à _)]
def CW(hn:↑58=n)(a:F (zG rs (Wl S l x)).1 (zG rs (Wl S l x)).2=#[d,Wl S l y++T,1])(h:lo ↑1 d)(b: ∀l,d≠.loc l):zE n F rs (Wl S l x)=#[d,Wl S l y,1]:=by
 unfold zE;rw[iP hn,a,yS,bB];unfold jL;rw[iP (Au x y T)]
 cases d with
 |loc m=>exact absurd rfl (b m)
 |_=>dsimp only;exact qq (iP (by rw[dQ];exact h)) (qq ((Av S l y T (dQ S l x))) rfl)
theorem UO(hn:↑58=n)(a:F (zG rs (Wl S l x)).1 (zG rs (Wl S l x)).2=.ok #[m,1] (Wl S l y++T))(hm:↑1<=m)(b:(Wl S l y++T)[m]? =#[ds,2])(h:AW ↑1 ds):zE n F rs (Wl S l x)=#[ds,Wl S l y,2]:=by unfold zE;rw[iP hn,a,yS,bB];unfold jL;rw[iP (Au x y T)];dsimp only;rw[dQ,iN #[],b];dsimp only;rw[iP h,Av S l y T rfl]
def Nm(x:Db):Prop:=1<=x.length/\x.length<=8/\ ∀c∈x,97<=c/\c<=122
def Vl(v:MV):Prop:=(∃i,v=.int i/\ -10 ^ 30<i/\i<10 ^ 30)\/ ∃x,v=.str x/\Nm x
def Vl.vs(h:Vl v):VS v:=h.imp (λ⟨i,e,_⟩=>⟨i,e⟩) λ⟨x,e,_⟩=>⟨x,e⟩
section
variable{S:Sto}{x:Int}
theorem UP(e:l<↑1)(h:0<n)(i: ∀ a  S ,SR #[a,5] #[n,5] S=.ok #[a / n,5] S):zE 2 zC [#[l,1],#[n,5]] (Wl S l x)=.ok #[x % n,5] (Wl S l (x / n)):=by
 have hs:zM FO [.loc l,.int n]=[some _,some _,none]:=rfl;have c:uY [MV.int x] 0=some _:=rfl;have b:=Kg e x;have j:nE [#[l],#[n,0],none] (Wl S l x)=#[[#[l],#[n,0],#[x % n,0]],Wl S l x,0]:=by unfold nE;exists 7,AD b c,mod_lit h
 have d:nF [#[l],#[n,0],#[x % n,0]] (Wl S l x)=#[[#[l],#[n,0],#[x % n,0]],Wl S l (x / n),0]:=by unfold nF;simp? [AD b c,i,rG,Jx b (show NW [MV.int x].length 0=some 0 from rfl)];exact congrArg _ (Uc S l x _)
 refine CW (T:=[]) rfl ?_ (DZ _ _) (λl=>by simp);show zC [.loc l,.int n] (Wl S l x)=_;unfold zC tO;rw[hs,zD j,zD d,aN];rfl
def xC(b:l<↑1)(a:0<n:=by decide)(c:n<1073741824:=by decide):zE 2 zC [#[l,1],#[n,5]] (Wl S l x)=.ok #[x % n,5] (Wl S l (x / n)):=UP b a (PB a c)
theorem QS(a:l<↑1): ∃y z,Nm y/\zE 1 kZ [#[l,1]] (Wl S l x)=#[.str y,Wl S l z,1]:=by have hm:=md (x:=x) (n:=8);obtain⟨_,_,e,y,z,k,rfl,rfl,s,hY⟩:=fP (gf:=zV 3) (body:=nG) (n:=9) (λi j p=> ∃(y:Db)(z:Int)(k:Y0),j=[#[l],#[abc,4],#[y,4],k]/\p=Wl S l z/\y.length=i/\ ∀c∈y,97<=c/\c<=122) ((List.range (1+x % 8).toNat).map eH) 0 (by rw[lM,Ħ];lia) (YR ([]) _ none ⟨rfl,rfl,rfl,by simp⟩) (λd _ i hi j v ⟨y,z,k,m,o,u,r⟩=>by subst m o;obtain⟨c,b⟩:=PC (xs:=abc) (md ↑11).1 (md (x:=z) (n:=26)).2;refine⟨_,_,_,rfl,?_,y++[c],z / 26,some d,rfl,rfl,by simp[u],λe q=>(ê.mp q).elim (r e) λh=>by rw[mS.mp h];exact PD (P:=λk=>97<=k/\k<=122) ↑11 b⟩;unfold nG aW;simp? [xC (n:=26) a,ix_str (by rw[ĝ];decide) b];rw[add_str (fits (by rw[lS];lia))];rfl);refine YS y z (by simp at s;exact⟨by lia,by lia,hY⟩) (CW (T:=[]) rfl ?_ (WY _ _) (λl=>by simp));rw[aN];show zT (tP [#[l],none,none,none] _)=_;refine wC (zA rfl (zA rfl (zA (ρ':=[#[l],#[abc,4],#[y,4],k]) ?_ rfl)));unfold oM;simp? [xC (n:=8) a];rw[sP #[],bB];exact e
end
def dR(c)(S): ∃t,zE 1 yA [#[c,5]] S=#[[.int t],S,2]:=by
 obtain⟨t,h⟩: ∃t,nB [#[c,0],none,none,none,none,none] S=.ok (.ret (.new [.int t])) S:=by
  unfold nB;have b:gF [#[c,0],none,none,none,none,none] S=#[[#[c,0],#[c / 2,0],none,none,none,none],S,0]:=by unfold gF;exists 7,PB ↑11 ↑11
  by_cases q:c % 2=0
  .refine⟨c / 2,zA b (bG ?_)⟩;unfold gG;exists 7,mod_lit ↑11,dT0 q
  .obtain⟨_,_,e,n,t,k,o,rfl,rfl⟩:=fP (gf:=zV 4) (body:=gD) (n:=16) (λ_ p S'=> ∃(n t:Int)(k o:Y0),p=[#[c,0],#[c / 2,0],#[n,0],#[t,0],k,o]/\S=S') ((List.range 16).map eH) 0 ↑11 (YQ _ 0 none none ⟨rfl,rfl⟩) (λd v i _ p w ⟨n,t,k,o,r,s⟩=>by
    subst r s;refine(mM.mp v).a λj _ d=>?_;subst d;have hm:=md (x:=n * 48271+7919 * (j:Int)+11) (n:=2147483647);obtain⟨m,a⟩: ∃m,m=(n * 48271+7919 * (j:Int)+11) % 2147483647:=⟨_,rfl⟩
    rw[<-a]at hm;refine⟨_,_,_,rfl,?_,m,t * 2147483587+m * m % 2147483629 * 69621 % 2147483587,some (eH j),#[m * m % 2147483629,0],rfl,rfl⟩;unfold gD;apply zA
    .unfold bP;simp? [GS (show -(2 ^ 64)<_/\(48271:Int)<2 ^ 64 by decide),SY (show -(2 ^ 64)<(7919:Int)/\_<2 ^ 64 by decide),mod_lit (show(0:Int)<2147483647 by decide), <-a];rfl
    apply zA
    .unfold bQ;exists 7,mul_31 ⟨hm.1,by omega⟩,mod_lit ↑11
    unfold bR;exists 7,GS ↑11,GS ↑11,mod_lit ↑11)
   refine⟨t,zA b ?_⟩;apply zA
   .unfold gG;simp? [mod_lit (show _<2 by decide),dF0 q,fT,iF];rfl
   apply zA
   .unfold aT;exists 7,mod_lit ↑11
   refine zA rfl (zA (ρ':=[#[c,0],#[c / 2,0],#[n,0],#[t,0],k,o]) (S':=S) ?_ ?_)
   .unfold aU;simp? [sP (j:=16) ↑11];exact e
   unfold aV;simp? [bB]
 exact⟨t,cJ rfl rfl (by rw[aN];exact wC h) (.inl rfl) (aM λe u=>by rw[mS.mp u];exact DZ _ _)⟩
noncomputable abbrev PP(M:Int)(l m:Nat)(k w v:Y0):Rho:=[#[l],#[M,0],#[m],k,w,v]
section
theorem po3{v:MV}(a:l<↑1)(hv:Vl v): ∃j z,Vl j/\gH (PP M l m k #[n,0] (some v)) (Wl S l x)=#[PP M l m k #[n,0] (some j),Wl S l z,0]:=by
 have hm:=md (x:=x) (n:=2 * 10 ^ 30 - 1);unfold gH;simp? [zAU,SY (show -_<(2:Int)/\_<2 ^ 64 by decide),UP a (show _<2 * 10 ^ 30 - 1 by decide) (Rm ↑50)];split
 .exact(YS _ _ (.inl (ZB _ rfl (by lia) (by lia))) rfl)
 .exact(YS v x hv rfl)
def po4{v:MV}(a:l<↑1)(hv:Vl v): ∃j z,Vl j/\gI (PP M l m k #[n,0] (some v)) (Wl S l x)=#[PP M l m k #[n,0] (some j),Wl S l z,0]:=by
 refine(QS (x:=x) a).d λy z c b=>?_;unfold gI;simp? [b];split
 .exact(YS _ _ (.inr ⟨y,rfl,c⟩) rfl)
 .exact(YS v x hv rfl)
theorem Eg(p:l<↑1)(hV: ∀d∈vs,Vl d)(hn:↑10<1000): ∃j u G z,(∀d∈j,Vl d)/\↑44<=↑10+1/\1<=↑44/\nH (PP M l ↑1 k w v) (Wl (S++[.lst vs]) l x)=#[PP M l ↑1 k u G,Wl (S++[.lst j]) l z,0]:=by
 have a:l<(S++[MO.lst vs]).length:=by rw[lA];lia
 have hm:=md (x:=x / 4) (n:=9);obtain⟨E,F,o,s⟩:=po3 a (.inl ⟨x / 4 % 9 - 4,rfl,by lia,by lia⟩);obtain⟨i,c,b,D⟩:=po4 a o;have m:(Wl _ l c)[↑1]? =#[vs,2]:=CV p c _
 obtain⟨j,q,r,B,C⟩: ∃j,(∀d∈j,Vl d)/\j.length<=↑10+1/\1<=↑44/\gM (PP M l ↑1 k #[x % 4,0] (some i)) (Wl (S++[.lst vs]) l c)=.ok _ (Wl (S++[.lst j]) l c):=by
  unfold gM;simp? [oA true m (eK b.vs).1 λy A=>eK (hV y A).vs,yX m,xO m #[],QR p];by_cases h:i∈vs
  .exact⟨vs,hV,le_succ _,List.length_pos_of_mem h,by rw[dT0 h];rfl⟩
  .refine⟨vs++[i],λd e=>?_,by simp,by simp,by rw[dF0 h];rfl⟩;rcases ê.mp e with e|e
   .exact hV d e
   .rw[mS.mp e];exact b
 refine⟨j,#[x % 4,0],some i,c,q,r,B,?_⟩;unfold nH;apply zA
 .unfold aX;exists 7,xC a
 apply zA
 .unfold aY;exists 7,xC a
 exact zA s (zA D C)
end
theorem F7(c:l<↑1)(x)(B:1<=M)(D:M<=4): ∃vs z,(∀d∈vs,Vl d)/\1<=↑10/\↑10<=M/\gZ [.loc l,eH M] (Wl S l x)=.ok #[↑1,1] (Wl (S++[.lst vs]) l z):=by
 rw[20];obtain⟨_,_,e,vs,z,k,w,v,rfl,rfl,hV,h,p⟩:=fP (gf:=zV 3) (n:=M) (λi j S'=> ∃(vs:X0)(z:Int)(k w v:Y0),j=PP M l ↑1 k w v/\S'=Wl (S++[.lst vs]) l z/\(∀d∈vs,Vl d)/\↑10<=i/\(i=0\/1<=↑10)) ((List.range M).map eH) 0 (by simp) (WX ([]) x none none none ⟨rfl,rfl,by simp,à _,.inl rfl⟩) (λd _ i hi j C ⟨vs,z,k,w,v,u,r,hV,h,_⟩=>by refine V0 λE=>?_;subst u r;obtain⟨b,q,o,m,a,A,y,s⟩:=Eg c hV #[];refine E ?_;exact⟨_,_,_,rfl,s,b,m,_,q,o,rfl,rfl,a,by lia,.inr y⟩);rw[lM,Ħ]at h p;refine g ?_;refine Ym vs z hV (by lia) (by lia) ?_;show zT (mT [#[l],some (eH M),none,none,none,none] _)=_;refine wC ?_;unfold mT;apply zA
 .unfold oN;simp? [dQ,eI c];rfl
 refine zA (ρ':=PP M l ↑1 k w v) (S':=Wl (S++[.lst vs]) l z) ?_ ?_
 .unfold oO;exists 7,Kc (show M<=1000 by omega),e
 unfold oP;exists 7,rfl
theorem Ry(t)(S): ∃vs,(∀d∈vs,Vl d)/\1<=↑10/\↑10<=3/\zE 2 gZ [.new [.int t],#[3,5]] S=#[vs,S,2]:=by
 have a:↑1<(S++[MO.lst []]).length:=by simp
 refine(F7 a t (M:=3) ↑11 ↑11).k λvs z hV c b e=>?_;refine⟨vs,hV,c,b,cJ (T:=[.lst [.int z],.lst vs]) rfl (show zG [.new [.int t],.val _] S=([.loc ↑1,.int 3],S++[.lst [.int t]])from rfl) ?_ (.inr (ZB _ rfl (le_succ _) (tV S _ _))) ((aM λd i=>lV (eK ((λd h=>(hV d h).vs) d i)).1))⟩;rw[pS];show gZ [.loc ↑1,eH 3] _=_;rw[e,lA, <-eI a, <-pS,aA];rfl
noncomputable abbrev T4(l m:Nat)(k w:Y0):Rho:=[#[l],#[m],k,w]
theorem Kh(c:l<↑1)(hn:ts.length<1000):
  ∃p j z,(1<=p.1/\p.1<=4/\0<=p.2/\p.2<=p.1)/\gN (T4 l ↑1 k w) (Wl (S++[.lst (ts.map tbl)]) l x)=#[T4 l ↑1 k j,Wl (S++[.lst ((ts++[p]).map tbl)]) l z,0]:=by
 have b:l<(S++[MO.lst (ts.map tbl)]).length:=by rw[lA];lia
 obtain⟨a,e⟩: ∃a,a=1+x % 4:=⟨_,rfl⟩
 have i:=md (x:=x) (n:=4);have h:=md (x:=x / 4) (show 0<a+1 by lia);have d: ∀z,(Wl _ l z)[↑1]? =#[ts.map tbl,2]:=λz=>CV c z _;refine XE (a,x / 4 % (a+1)) (#[a,0]) (x / 4 / (a+1)) ⟨by show 1<=a;lia,by show a<=4;lia,h.1,by show x / 4 % (a+1)<=a;lia⟩ ?_;unfold gN;apply zA
 .unfold bS;simp? [xC (n:=4) b, <-e];rfl
 unfold bT;simp? [yX (d _),xC b (show 0<a+1 by lia) (by lia),xO (d _) (by rw[lM];lia),QR c];refine qq ñ ?_;rfl
def Eh(t)(S): ∃ts,Jy ts/\zE 1 nI [.new [.int t]] S=#[ts.map tbl,S,2]:=by
 refine V0 λD=>?_;have a:↑1<(S++[MO.lst []]).length:=by simp
 have hm:=md (x:=t) (n:=4)
 obtain⟨_,_,e,ts,z,k,w,rfl,rfl,hT,b⟩:=fP (gf:=zV 2) (n:=4) (λi m S'=> ∃(ts:Tk)(z:Int)(k w:Y0),m=T4 ↑1 (↑1+1) k w/\S'=Wl (S++[.lst []]++[.lst (ts.map tbl)]) ↑1 z/\(∀p∈ts,1<=p.1/\p.1<=4/\0<=p.2/\p.2<=p.1)/\ts.length=i) ((List.range (1+t % 4).toNat).map eH) 0 (by simp;lia) (YQ ([]) (t / 4) none none ⟨rfl,rfl,by simp,rfl⟩) (λd _ i hi m C ⟨ts,z,k,w,u,y,hT,b⟩=>by
  subst u y;obtain⟨p,v,r,B,o⟩:=Kh (x:=z) (ts:=ts) (w:=w) a (by lia);rw[lA]at o;refine⟨_,_,_,rfl,o,ts++[p],r,some d,v,rfl,rfl,λq s=>?_,by simp[b]⟩;rcases ê.mp s with h|h
  .exact hT q h
  .rw[mS.mp h];exact B)
 rw[lM,Ħ]at b;refine D ?_;refine⟨ts,⟨by lia,by lia,hT⟩,cJ (T:=[.lst [.int z],.lst (ts.map tbl)]) rfl rfl ?_ (.inr (ZB _ rfl (le_succ _) (tV S _ _))) (aM λd A=>by refine(mM.mp A).a λp _ g=>?_;subst g;exact XA (aM λe c=>by simp at c;rcases c with rfl|rfl<;>exact DZ _ _))⟩;show zT _=_;rw[pS,show S++[MO.lst [.int z],.lst (ts.map tbl)]=Wl _ ↑1 z by rw[<-eI a, <-pS,aA];rfl];refine wC ?_;unfold oQ;refine zA (ρ':=T4 ↑1 (↑1+1) none none) (S':=Wl (S++[.lst []]++[.lst []]) ↑1 t) ?_ (zA (ρ':=T4 ↑1 (↑1+1) k w) (S':=Wl (S++[.lst []]++[.lst (ts.map tbl)]) ↑1 z) ?_ ?_)
 .unfold aZ;simp? [dQ,eI a];rw[lA];rfl
 .unfold eC;simp? [xC (n:=4) (show ↑1<(S++[MO.lst []]++[MO.lst []]).length by simp),sP (j:=1+t % 4) (by lia)];exact e
 unfold eE;simp? [bB]
noncomputable abbrev N5(l m:Nat)(b:Db)(k w:Y0):Rho:=[#[l],#[b,4],#[m],k,w]
theorem adds(h:x.length+y.length<=1000)(S):jU (.val (.str x)) (.val (.str y)) S=#[.str (x++y),S,1]:=add_str (fits #[])
theorem Ki(h:Nm b)(e:b.length<=6):(Nm (b++[97])/\Nm ([98]++b))/\Nm ([98]++b++[97])/\Nm ([99]++b):=by refine h.e λi _ d=>?_;refine⟨⟨?_,?_⟩,?_,?_⟩<;>refine⟨by simp,by simp;lia,λc a=>?_⟩<;>simp at a<;>rcases a with a|a<;>first |exact d c a|(subst a;decide)|(rcases a with a|a<;>first |exact d c a|(subst a;decide))
theorem Rz(h:l<↑1)(hn:↑66<1000)(i:b.length<=6)(k:Nm b)(o:j<2):
  ∃y q z,Nm y/\bW (N5 l ↑1 b (some (eH j)) w) (Wl (S++[.lst #[us,8]]) l x)=#[N5 l ↑1 b (some (eH j)) q,Wl (S++[.lst ((us++[y]).map MV.str)]) l z,0]:=by
 have e:l<(S++[MO.lst #[us,8]]).length:=by rw[lA];lia
 refine(QS (x:=x) e).d λy z p s=>?_;have d:(Wl _ l z)[↑1]? =#[us.map MV.str,2]:=CV h z _
 obtain⟨r,u,n⟩: ∃r,Nm r/\uY [MV.str _,.str _] (j:Int)=some _:=by
  match j,o with
  |0,_=>exact⟨_,(Ki k i).1.2,rfl⟩
  |1,_=>exact⟨_,(Ki k i).2.1,rfl⟩
 obtain⟨a,c,m⟩: ∃a,Nm a/\jE (N5 l S.length b (some (eH j)) #[y,4]) (Wl (S++[.lst #[us,8]]) l z)=#[N5 l ↑1 b _ (some _),_,0]:=by
  unfold jE;simp? [oA false d (tR y) CQ,adds (x:=[98]) (y:=b) (by simp only[lS];lia),adds (x:=[98]++b) (y:=[97]) (by simp only[lA,lS];lia),Zf n,fT,iF];split
  .exact⟨r,u,rfl⟩
  .exact⟨y,p,rfl⟩
 refine XE a (#[a,4]) z c ?_;apply zA
 .unfold dD;exists 7,s
 refine zA m ?_;unfold dE;simp? [yX d,xO d (by rw[lM];lia),QR h];rw[ñ];rfl
theorem Kj(t)(S): ∃(b:Db)(r:Ch),r.length=2/\b.length<=6/\(∀y∈b::r,Nm y)/\zE 1 fH [.new [.int t]] S=#[(b::r).map MV.str,S,2]:=by
 have a:↑1<(S++[MO.lst []]).length:=by simp
 refine(QS (S:=S++[.lst []]) (l:=↑1) (x:=t) a).d λw z hw C=>?_;have D:bX [#[↑1],none,none,none,none] (Wl (S++[.lst []]) ↑1 t)=#[[#[↑1],#[w.take 6,4],none,none,none],Wl (S++[.lst []]) ↑1 z,0]:=by unfold bX;simp? [C,cut_str (fits (show w.length<=1000000 by have:=hw.2.1;lia)),show rY w none (some 6)=w.take 6 from Pt _ _ ↑11]
 have m:(w.take 6).length<=6:=by rw[lT];exact Nat.min_le_left _ _
 have o:Nm (w.take 6):=⟨by rw[lT];have:=hw.1;lia,by lia,λc C=>hw.2.2 c (mem_of_mem_take C)⟩
 generalize w.take 6=b at m D o;have q:bY [#[↑1],#[b,4],none,none,none] (Wl (S++[.lst []]) ↑1 z)=if decide (z % 2=0)=true then .ok (.ret (.new [.str b,.str (b++[97]),.str ([98]++b)])) (Wl (S++[.lst []]) ↑1 (z / 2))else #[[#[↑1],#[b,4],none,none,none],Wl (S++[.lst []]) ↑1 (z / 2),0]:=by unfold bY;simp? [xC (n:=2) a,adds (x:=b) (y:=[97]) (by simp only[lS];lia),adds (x:=[98]) (y:=b) (by simp only[lS];lia)]
 by_cases h:z % 2=0
 .rw[dT0 h,iP rfl]at q;refine Ym b ([b++[97],[98]++b]) rfl m (λy p=>(by rcases (by simpa using p:y=b\/y=b++[97]\/y=98::b)with rfl|rfl|rfl<;>first |exact o|exact(Ki o m).1.1|exact(Ki o m).1.2)) (cJ (T:=[.lst [.int (z / 2)]]) rfl rfl ?_ (.inl rfl) (uU _ _));rw[pS,pS];exact wC (zA D (bG q))
 .refine V0 λO=>?_;rw[dF0 h,iN xF0]at q;obtain⟨_,_,e,r,s,k,v,rfl,rfl,A,B⟩:=fP (gf:=zV 3) (body:=bW) (n:=2) (λi E S'=> ∃(r:Ch)(z:Int)(k w:Y0),E=N5 ↑1 (↑1+1) b k w/\S'=Wl (S++[.lst []]++[.lst ((b::r).map MV.str)]) ↑1 z/\r.length=i/\ ∀y∈r,Nm y) ((List.range 2).map eH) 0 ↑11 (YQ ([]) (z / 2) none none ⟨rfl,rfl,rfl,by simp⟩) (λd L i hi E M ⟨r,z,k,v,G,J,A,B⟩=>by subst G J;refine(mM.mp L).a λj K N=>?_;subst N;refine(Rz (S:=S++[.lst []]) (l:=↑1) (x:=z) (b:=b) (us:=b::r) (j:=j) (w:=v) a (by simp;lia) m o (ő.mp K)).g λy H F g=>g.elim λp e=>?_;rw[lA]at e;exact⟨_,_,_,rfl,e,r++[y],F,some (eH j),H,rfl,rfl,by simp[A],λu I=>(ê.mp I).elim (B u) λh=>by rw[mS.mp h];exact p⟩);refine O ?_;refine Ym b r A m (λy p=>(mC.mp p).elim (λh=>h▸o) (B y)) (cJ (T:=[.lst [.int s],.lst ((b::r).map MV.str)]) rfl rfl ?_ (.inr (ZB _ rfl (le_succ _) (tV S _ _))) (uU _ _));rw[pS,show S++[MO.lst [.int s],.lst ((b::r).map MV.str)]=Wl _ ↑1 s by rw[<-eI a, <-pS,aA];rfl];refine wC (zA D (zA q (zA (ρ':=N5 ↑1 (↑1+1) b none none) (S':=Wl (S++[.lst []]++[.lst ([b].map MV.str)]) ↑1 (z / 2)) ?_ (zA (ρ':=N5 ↑1 (↑1+1) b k v) (S':=Wl (S++[.lst []]++[.lst ((b::r).map MV.str)]) ↑1 s) ?_ ?_))))
  .unfold iW;simp? [dQ,eI a];rw[lA];rfl
  .unfold iY;exists 7,sP (j:=2) ↑11,e
  unfold iZ;simp? [bB]
abbrev Rw:=Int×List MV
noncomputable def zX(r:Rw):MV:=.tup [.int r.1,.tup r.2]
set_option bootstrap.genMatcherCode true in
local macro_rules
 |`(#[$x,9])=>`(($x).map zX)
noncomputable def Ei(ts:Tk)(t:Int):Nat:=((ts[t.toNat]?).map (·.1.toNat)).getD 0
def TmP(ys:Ch)(vs:X0)(d:MV):Prop:=(∃y∈ys,d=.tup [.str KD,.str y])\/ ∃v∈vs,d=.tup [.str IS,v]
abbrev TT(ts:Tk):MV:=.tup (ts.map tbl)
def Ff(ts:Tk)(ys:Ch)(vs:X0)(a:Rw):Prop:=a.2.length=Ei ts a.1/\(∀d∈a.2,TmP ys vs d)/\0<=a.1/\a.1<ts.length
def Sa(ts:Tk)(vs:X0)(r:Rw):Prop:=r.2.length=Ei ts r.1/\ ∀c∈r.2,c∈vs
theorem fW(o)(S):kG [.new o] S=.ok #[o,6] S:=rfl
def TmP.ok(hV: ∀v∈vs,VS v)(h:TmP ys vs d):xK d:=by
 rcases h with⟨y,_,rfl⟩|⟨v,hv,rfl⟩
 .exact .inl ⟨y,rfl⟩
 .exact .inr (Z3 v (hV v hv) rfl)
theorem Kk(hT:Jy ts)(n): ∃p,(1<=p.1/\p.1<=4)/\(Ei ts (n %  ts.length ):Int)=p.1/\ ∀S:Sto,jV (.val (TT ts)) #[n %  ts.length ,5] S=#[tbl p,S,1]:=by
 have h:=hT.1;have e:=eN n (show(ts.length:Int)≠0 by lia);have d:=eL n (show(0:Int)<ts.length by lia);obtain⟨k,b⟩: ∃k:Nat,n % (ts.length:Int)=k:=⟨(n % (ts.length:Int)).toNat,by lia⟩
 have a:k<ts.length:=by lia
 have c:=hT.2.2 _ (ŀ a);refine ZB _ ⟨c.1,c.2.1⟩ ?_ (λS=>?_)
 .unfold Ei;rw[b,Ĉ,gE a];show((ts[k].1.toNat:Nat):Int)=ts[k].1
  lia
 .rw[b];exact ix_tup (JH (by rw[ó,gE a];rfl))
theorem QT{P:MV->Prop}(st: ∀ d  x , ∃j y z,gf d ρb (Wl S l x)=.ok j (Wl S l x)/\cf j (Wl S l x)=.ok true (Wl S l x)/\ef j (Wl S l x)=#[y,Wl S l z,1]/\P y):
  ∀ L  x , ∃out z,out.length=L.length/\(∀d∈out,P d)/\yD gf cf ef ρb [] L (Wl S l x)=.ok out (Wl S l z)
 |[],x=>(Z0 ([]) x rfl (by simp) rfl)
 |d::L,x=>by refine V0 λi=>?_;refine(st d x).g λj y u g=>g.h λm q G B=>?_;refine(QT st L u).c λout z a c b=>?_;refine i ?_;refine Z0 _ z (by rw[lC,lC,a]) (λe h=>(mC.mp h).elim (λz=>z▸B) (c e)) ?_;unfold yD;rw[m,yS,bB,q,yS,bB,G,yS,bB];unfold kE;rw[bB,iP (wQ _),b];rfl
section
theorem QU(c:l<↑1)(e:l≠p)(j:S[p]? =#[ds,2])(k:1<=↑12)(m:↑12<=1000)(x): ∃d∈ds, ∃z,(((nZ [#[p,1]] (Wl S l x)).bind λn S=>zE 2 zC [#[l,1],n] S).bind λi S=>jV #[p,1] i S)=#[d,Wl S l z,1]:=by
 have a: ∀z,_[p]? =some _:=λz=>(tW e z).trans j;have b:(0:Int)<(ds.length:Int):=by lia
 obtain⟨v,hv⟩:=PC (eN _ #[]) (eL _ b);refine⟨v,PD (λ_ h=>h) hv,x / (ds.length:Int),?_⟩;rw[gA (a x),bB,xC c b (by lia +ring),bB,AD (a _) hv]
theorem Sb(c:l<↑1)(u:l≠p)(r:l≠q)(w:S[p]? =#[vs,2])(k:S[q]? =#[ys.map MV.str,2])(hV: ∀d∈vs,VS d)(A:1<=↑10)(G:↑10<=4)(i:1<=↑40)(C:↑40<=10)(x):
  ∃B z,TmP ys vs B/\zE 3 mW [#[l,1],#[q,1],#[p,1]] (Wl S l x)=#[B,Wl S l z,1]:=by
 obtain⟨v,hv,s,a⟩:=QU c u w A #[] _;obtain⟨d,F,o,b⟩:=QU c r k (by rw[lM];exact i) (by rw[lM];lia) _;refine(mM.mp F).a λy E g=>?_;subst g;by_cases h:x % 4=0
 .have e:wM [#[l],#[q],#[p]] (Wl S l x)=.ok (.ret #[[.str IS,v],6]) (Wl S l s):=by have j: ∀z,(Wl S l z)[p]? =some _:=λz=>(tW u z).trans w;rw[gA (j _),bB]at a;unfold wM;simp? [xC (n:=4) c,h,gA (j _)];rw[a];exists 7,rfl
  have ok:TmP ys vs _:=.inr ⟨v,hv,rfl⟩;refine YS _ s ok (CW (T:=[]) rfl ?_ (lV (MW (ok.ok hV)).1) (λl=>by simp));show zT (bA [some _,some _,some _] (Wl S l x))=_;unfold bA;rw[bG e,aN];rfl
 .have e:wM [#[l],#[q],#[p]] (Wl S l x)=#[[#[l],#[q],#[p]],Wl S l (x / 4),0]:=by unfold wM;exists 7,xC c,h,decide_false,fT,iF
  have D:nR [#[l],#[q],#[p]] (Wl S l (x / 4))=.ok (.ret #[[.str KD,.str y],6]) (Wl S l o):=by have m: ∀z,_[q]? =some _:=λz=>(tW r z).trans k;rw[gA (m _),bB]at b;unfold nR;simp? [gA (m _)];rw[b];exists 7,rfl
  have ok:TmP ys vs _:=.inl ⟨y,E,rfl⟩;refine YS _ o ok (CW (T:=[]) rfl ?_ (lV (MW (ok.ok hV)).1) (λl=>by simp));show zT (bA [some _,some _,some _] (Wl S l x))=_;unfold bA;rw[zD e,D,aN];rfl
theorem F8(k:l<↑1)(q:l≠p)(s:S[p]? =#[vs,2])(hV: ∀d∈vs,VS d)(w:1<=↑10)(G:↑10<=4)(hT:Jy ts)(x):
  ∃r z,Sa ts vs r/\zE 3 qY [#[l,1],.val (TT ts),#[p,1]] (Wl S l x)=#[zX r,Wl S l z,1]:=by
 rw[20];have E:=hT.1;have B:=hT.2.1;have j: ∀z,nZ [.val (TT ts)] (Wl S l z)=.ok _ _:=λz=>by rw[CP,lM]
 refine(Kk hT x).b λy A hw b=>?_;obtain⟨t,a⟩: ∃t,t=x % (ts.length:Int):=⟨_,rfl⟩
 rw[<-a]at hw b;have C:fE [#[l],some (TT ts),#[p],none] (Wl S l x)=#[[#[l],some (TT ts),#[p],#[t,0]],Wl S l (x / (ts.length:Int)),0]:=by unfold fE;simp? [j,xC (n:=(ts.length:Int)) k #[] #[]];rw[a]
 obtain⟨out,z,u,o,h⟩:=QT (S:=S) (l:=l) (gf:=zV 0) (cf:=iS) (ef:=bU) (ρb:=[none,some _,#[p]]) (λd x=>by obtain⟨v,hv,z,e⟩:=QU k q s w #[] x;refine⟨_,v,z,rfl,rfl,?_,hv⟩;have m: ∀z,(Wl S l z)[p]? =some _:=λz=>(tW q z).trans s;rw[gA (m _),bB]at e;unfold bU;simp? [gA (m x)];exact e) _ _;rw[lM,Ħ]at u;have F: ∀S,jV (.val (tbl y)) #[0,5] S=.ok #[(Ei ts t:Int),5] S:=λS=>by rw[hw];rfl
 have D:fF [#[l],some (TT ts),#[p],#[t,0]] (Wl S l (x / (ts.length:Int)))=.ok (.ret (.val (zX (t,out)))) (Wl S l z):=by unfold fF;simp? [b,F,Kc (show Ei ts t<=1000 by lia),lM,Ħ,show Ei ts t<1000000 by lia];rw[show vH 1 [0,2] [some _,some _,some _,some _]=[none,some _,some _]from rfl,h];exists 7,fW
 have i:pd (zX (t,out))=true:=by unfold zX;rw[wA,yE,yE,wA,cI λc h=>(eK (hV c (o c h))).1];rfl
 refine g ?_;refine YS _ z ⟨u,o⟩ (CW (T:=[]) rfl ?_ (lV i) (λl=>by simp[zX]));show zT (qX [some _,some _,some _,none] (Wl S l x))=_;unfold qX;rw[zD C,D,aN];rfl
end
abbrev A8(ts:Tk)(M l p q m:Nat)(k t:Y0):Rho:=[#[l],some (TT ts),#[q],#[p],some (eH M),#[m],k,t]
section
theorem Ej(u:l<↑1)(O:l≠p)(F:l≠q)(H:S[p]? =#[vs,2])(B:S[q]? =#[ys.map MV.str,2])(hV: ∀d∈vs,VS d)(A:1<=↑10)(K:↑10<=4)(r:1<=↑40)(m:↑40<=10)(hT:Jy ts)(P:as.length<100)(x)(k t0):
  ∃a t' z,Ff ts ys vs a/\bV (A8 ts M l p q ↑1 k t0) (Wl (S++[.lst #[as,9]]) l x)=#[A8 ts M l p q ↑1 k t',Wl (S++[.lst ((as++[a]).map zX)]) l z,0]:=by
 rw[20];have i:l<(S++[MO.lst #[as,9]]).length:=by rw[lA];lia
 have v: ∀{j:Nat}{o:MO},S[j]? =some o->(S++[MO.lst #[as,9]])[j]? =some o:=λh=>by rw[â (gS.mp h).1];exact h
 have y: ∀z,(Wl _ l z)[↑1]? =#[as.map zX,2]:=λz=>CV u z _;have G:=hT.1;have N:=hT.2.1;have s: ∀Z,nZ [.val (TT ts)] Z=.ok _ Z:=λZ=>by rw[CP,lM]
 refine(Kk hT x).b λC D hw c=>?_;obtain⟨t,b⟩: ∃t,t=x % (ts.length:Int):=⟨_,rfl⟩
 rw[<-b]at hw c;obtain⟨out,z,w,E,L⟩:=QT (gf:=zV 0) (cf:=dA) (ef:=jD) (ρb:=[none,some _,some _,some _]) (λd x=>by refine(Sb i O F (v H) (v B) hV A K r m x).d λI z h e=>?_;refine⟨_,I,z,rfl,rfl,?_,h⟩;unfold jD;exists 7,e) ((List.range (Ei ts t)).map eH) _;rw[lM,Ħ]at w;have J: ∀S,jV (.val (tbl C)) #[0,5] S=.ok #[(Ei ts t:Int),5] S:=λS=>by rw[hw];rfl
 refine g ?_;refine XE (t,out) (#[t,0]) z ⟨w,E,by rw[b];exact md #[]⟩ ?_;unfold bV;apply zA
 .unfold dB;simp? [s,xC (n:=(ts.length:Int)) i #[] #[], <-b];rfl
 unfold dC;simp? [yX (y _),c,J,Kc (show Ei ts t<=1000 by lia),lM,Ħ,show Ei ts t<1000000 by lia];rw[show vH 1 [0,2,3] _=[none,some _,some _,some _]from rfl,L];simp? [fW,(λY=>tup2 _ _ Y),xO (y z) (by rw[lM];lia),QR u];rw[ñ];rfl
theorem Kl(c:l<↑1)(F:l≠p)(D:l≠q)(G:S[p]? =#[vs,2])(C:S[q]? =#[ys.map MV.str,2])(hV: ∀d∈vs,VS d)(A:1<=↑10)(v:↑10<=4)(s:1<=↑40)(r:↑40<=10)(hT:Jy ts)(I:M<=4)(x):
  ∃(as:List Rw)(z:Int),as.length=M/\(∀a∈as,Ff ts ys vs a)/\zE 5 fG [#[l,1],.val (TT ts),#[q,1],#[p,1],.val (eH M)] (Wl S l x)=#[as.map zX,Wl S l z,2]:=by
 refine V0 λK=>?_;obtain⟨_,_,e,as,z,k',t',rfl,rfl,k,m⟩:=fP (gf:=zV 6) (n:=M) (λi w S'=> ∃(as:List Rw)(z:Int)(k' t':Y0),w=A8 ts M l p q ↑1 k' t'/\S'=Wl (S++[.lst #[as,9]]) l z/\(∀a∈as,Ff ts ys vs a)/\as.length=i) ((List.range M).map eH) 0 (by simp) (YQ ([]) x none none ⟨rfl,rfl,by simp,rfl⟩) (λd _ i hi w J ⟨as,z,k',t',H,E,k,m⟩=>by subst H E;obtain⟨a,y,B,o,u⟩:=Ej c F D G C hV A v s r hT (as:=as) #[] z _ t';exact⟨_,_,_,rfl,u,_,B,_,y,rfl,rfl,λb u=>(ê.mp u).elim (k b) λh=>by rw[mS.mp h];exact o,by simp[m]⟩);rw[lM,Ħ,Ă]at m;refine K ?_;refine Z0 as z m k (UO rfl ?_ (à _) (by rw[eI c];exact CV c z _) (aM λd j=>by refine(mM.mp j).a λa o g=>?_;subst g;exact lV ((show pd (zX a)=true/\DR (zX a)<=3 by
   have v:=mZ λd j=>(MW (((k a o).2.1 d j).ok hV)).2;unfold zX;refine⟨by rw[wA,yE,yE,wA,(cI λd j=>(MW (((k a o).2.1 d j).ok hV)).1)];rfl,?_⟩;rw[xP,yH,yH,tQ,rH,xP]
   lia)).1));show zT (qZ [some _,some _,some _,some _,some _,none,none,none] _)=_;rw[eI c];refine wC ?_;apply zA
 .unfold iT;simp? [dQ,eI c];rfl
 refine zA (ρ':=A8 ts M l p q ↑1 k' t') (S':=Wl (S++[.lst #[as,9]]) l z) ?_ ?_
 .unfold iU;simp? [Kc (show M<=1000 by lia)];exact e
 unfold iV;simp? [bB]
end
noncomputable abbrev N6(a:MV)(m:Nat)(t u w n:Y0):Rho:=[some a,#[m],t,u,w,n]
def wF(as:List Rw):List (List Nat):=as.flatMap λa=>a.2.filterMap vn
def MY(v):vn (.tup [.str IS,v])=none:=by cases v<;>first |rfl|exact iN ↑11
theorem EX: ∀ j ,(∀d∈j,xK d)-> ∀ fs  w n ,fs.length+↑44<1000->
  ∃ q B ,yZ ↑56 yG [] j (N6 a ↑1 t u w n) (S++[.lst #[fs,8]])=#[N6 a ↑1 t u q B,S++[.lst ((yP fs (j.filterMap vn)).map MV.str)],0]
 |[],_,fs,w,n,_=>(Yk w n rfl)
 |d::j,hT,fs,w,n,hl=>by
  rw[lC]at hl;have m:=zL S (.lst #[fs,8]);rcases hT d mF0 with⟨x,rfl⟩|⟨v,hv,rfl⟩
  .have o:yG (N6 a ↑1 t u #[KD,4] #[x,4]) (S++[.lst #[fs,8]])=#[N6 a ↑1 t u #[KD,4] #[x,4],S++[.lst ((AS fs x).map MV.str)],0]:=by
    unfold yG xN;unfold AS;by_cases h:x∈fs
    .rw[iP h];simp? [FS,oA true m (tR x) CQ,dT0 (CS.mpr h),Ĩ,fT,iF]
    .rw[iN h];simp? [FS,oA true m (tR x) CQ,dF0 (λz=>h (CS.mp z)),Bool.not_false,yX m,xO m (by rw[lM];lia),wL,ñ,å,ň]
   have p:=JG fs x;obtain⟨i,c,b⟩:=EX j (λe k=>hT e (mO _ k)) (AS fs x) _ _ #[];refine Yk i c ?_;rw[zW rfl o (wQ _),b,ĳ,EW];rfl
  .have o:yG (N6 a ↑1 t u #[IS,4] (some v)) (S++[.lst #[fs,8]])=#[N6 a ↑1 t u #[IS,4] (some v),S++[.lst #[fs,8]],0]:=by unfold yG xN;exists 7,JD,fT,iF
   obtain⟨i,c,b⟩:=EX j (λe k=>hT e (mO _ k)) fs _ (some v) #[];refine Yk i c ?_;rw[zW rfl o (wQ _),b,ĳ,MY]
def UQ(ks xs ys):yP ks (xs++ys)=yP (yP ks xs) ys:=by
 induction xs generalizing ks with
 |nil=>rfl
 |cons x xs ih=>exact ih _
theorem MZ(c: ∀T,stay gs (S++T)): ∀ as ,(∀b∈as,(∀d∈b.2,xK d)/\b.2.length<=4)-> ∀ fs  t u w n ,fs.length+4 * as.length<1000->
  ∃ t' j q z ,yZ (iB 2 (zB (zV 2) (zB (zV 3) zY))) wW gs #[as,9] (N6 a ↑1 t u w n) (S++[.lst #[fs,8]])=#[N6 a ↑1 t' j q z,S++[.lst ((yP fs (wF as)).map MV.str)],0]
 |[],_,fs,t,u,w,n,_=>(YQ t u w n rfl)
 |b::as,hA,fs,t,u,w,n,hl=>by
  rw[lC]at hl;obtain⟨hT,B⟩:=hA b mF0;obtain⟨p,A,m⟩:=EX b.2 hT fs w n #[];have o:=tU (b.2.filterMap vn) fs;have h:=Ĳ vn b.2;obtain⟨k,r,s,i,y⟩:=MZ c as (λe v=>hA e (mO _ v)) (yP fs (b.2.filterMap vn)) _ _ p A #[];refine YQ k r s i ?_;rw[å,zW rfl ?_ (c _),y]
  .show _=R.ok _ (S++[.lst ((yP fs (b.2.filterMap vn++wF as)).map MV.str)]);rw[UQ]
  .unfold wW jQ;exists 7,oW,m
theorem YA(h:SqM S m #[as,9])(o:↑9)(r:as.length<=100):zE 1 yK [.val m] S=#[(yP [] (wF as)).map MV.str,S,2]:=by
 rw[20];refine h.itQ.a λs k hi=>?_;have p:wX [some m,none,none,none,none,none] S=#[N6 m ↑1 none none none none,S++[.lst []],0]:=by unfold wX;exists 7,rfl
 obtain⟨a,c,e,i,n⟩:=MZ k as o [] none none none none (by simp only[ø];lia);have j:wY (N6 m ↑1 none none none none) (S++[.lst []])=#[N6 m ↑1 a c e i,S++[.lst ((yP [] (wF as)).map MV.str)],0]:=by unfold wY;exists 7,hi [.lst []],n
 have q:wZ (N6 m ↑1 a c e i) (S++[.lst ((yP [] (wF as)).map MV.str)])=.ok (.ret #[↑1,1]) (S++[.lst ((yP [] (wF as)).map MV.str)]):=by unfold wZ;exists 7,rfl
 refine g ?_;refine IB rfl ?_ (à _) (zL S _) (uU _ _);show zT (gQ [some m,none,none,none,none,none] S)=_;unfold gQ;rw[zD p,zD j,q];rfl
section
def w2_a(h:l<↑1):(Wl (S++[a,b]) l x)[↑1]? =some a:=by rw[tW (é h)];simp
def zAW(h:l<↑1):(Wl (S++[a,b]) l x)[↑1+1]? =some b:=by rw[tW (é (Nat.lt_succ_of_lt h)),tV]
theorem zAX(h:l<↑1)(a'):(Wl (S++[a,b]) l x).set ↑1 a'=Wl (S++[a',b]) l x:=by unfold Wl;rw[ĸ _ _ h,ĸ _ _ h,Ī _ _ (by rw[ċ];exact à _),ċ,sub_self];rfl
theorem zAY(h:l<↑1)(b'):(Wl (S++[a,b]) l x).set (↑1+1) b'=Wl (S++[a,b']) l x:=by unfold Wl;rw[ĸ _ _ h,ĸ _ _ h,Ī _ _ (by rw[ċ];exact le_succ _),ċ,Nat.add_sub_cancel_left];rfl
end
noncomputable abbrev H6(l a m:Nat)(k:Y0):Rho:=[#[l],#[a],#[4,0],#[m],#[m+1],k]
theorem Ek(b:l<↑1)(s:fs.length<=16)(v:hs.length<1000):
  ∃(q j:Ch)(z:Int),(j++q).Perm (hs++fs)/\↑44<=hs.length+1/\q.length<=16/\nS (H6 l a ↑1 k) (Wl (S++[.lst #[fs,8],.lst #[hs,8]]) l x)=#[H6 l a ↑1 k,Wl (S++[.lst #[q,8],.lst #[j,8]]) l z,0]:=by
 have d:l<(S++[MO.lst #[fs,8],MO.lst #[hs,8]]).length:=by rw[lA];lia
 have c: ∀z,(Wl (S++[.lst #[fs,8],.lst #[hs,8]]) l z)[↑1]? =some _:=λz=>w2_a b;have r: ∀z,(Wl (S++[.lst #[fs,8],.lst #[hs,8]]) l z)[↑1+1]? =some _:=λz=>zAW b;unfold nS eF;by_cases h:fs=[]
 .subst h;refine YR ([]) hs x ⟨.refl _,le_succ _,by simp,?_⟩;exists 7,Ke (c x),show _=false from rfl,fT,iF
 .have w:0<fs.length:=List.length_pos_iff.mpr h;obtain⟨m,hm⟩: ∃m,m=(fs.map MV.str).length:=⟨_,rfl⟩
  have u:m=fs.length:=by rw[hm,lM]
  have n:=md (x:=x) (show(0:Int)<(m:Int) by lia);generalize hi:x % (m:Int)=i at n;have o:i.toNat<fs.length:=by lia
  refine YR (fs.eraseIdx i.toNat) (hs++[fs[i.toNat]]) (x / (m:Int)) ⟨?_,by simp,ô (List.length_eraseIdx_le ..) s,?_⟩
  .rw[aA];refine .append_left _ ?_;have e:fs.take i.toNat++fs[i.toNat]::fs.drop (i.toNat+1)=fs:=by rw[<-ĭ o,Ň]
   have p:(fs.take i.toNat++fs[i.toNat]::fs.drop (i.toNat+1)).Perm _:=List.perm_middle;rw[e]at p;rw[List.eraseIdx_eq_take_drop_succ];exact p.symm
  .simp? [Ke (c x),show(!(fs.map MV.str).isEmpty)=true by simpa using h,yX (r x),yX (c x),gA (c x), <-hm,xC d (show(0:Int)<(m:Int) by lia) #[],hi,Rx (c _) n.1 (by rw[<-hm];exact n.2) #[] (by rw[ó,gE o];rfl),Kf,zAX b];rw[xO (zAW b) (by rw[lM];lia),bB,zAY b,ñ];rfl
theorem Sd(w:l<↑1)(u:l≠a)(J:S[a]? =#[as.map zX,2])(m:↑9)(H:as.length<=4):
  ∃(hs:Ch)(z:Int),hs.length<=4/\(∀y∈hs,y∈yP [] (wF as))/\hs.Nodup/\ ∃fs:List (List Nat),aK [.loc l,.loc a,.int 4] (Wl S l x)=.ok #[↑1+1,1] (Wl (S++[.lst #[fs,8],.lst #[hs,8]]) l z):=by
 have p:=YA (.inr ⟨a,rfl,(tW u x).trans J⟩) m #[]
 have q:(yP [] (wF as)).length<=16:=by
  have C:=tU (wF as) []
  have s: ∀as:List Rw,(∀b∈as,b.2.length<=4)->(wF as).length<=4 * as.length:=λas=>by
   induction as with
   |nil=>simp[wF]
   |cons b as ih=>
    intro m;have:=ih λc p=>m c (mO _ p);have H:=m b mF0;have N:=Ĳ vn b.2;show(b.2.filterMap vn++wF as).length<=_;rw[lA,lC]
    lia
  have:=s as λb v=>(m b v).2;rw[ø]at C
  lia
 have k:(yP [] (wF as)).Nodup:=uT _ Ł;generalize yP [] (wF as)=fs at p q k;have r:l<(S++[MO.lst #[fs,8]]).length:=by rw[lA];lia
 have M:=md (x:=x) (n:=5);obtain⟨_,_,e,h,hs,z,k',rfl,rfl,o,A,_⟩:=fP (gf:=zV 5) (n:=4) (λi B S'=> ∃(h hs:Ch)(z:Int)(k':Y0),B=H6 l a ↑1 k'/\S'=Wl (S++[.lst #[h,8],.lst #[hs,8]]) l z/\(hs++h).Perm fs/\hs.length<=i/\h.length<=16) ((List.range (x % 5).toNat).map eH) 0 (by simp;lia) (YQ fs ([]) (x / 5) none ⟨rfl,rfl,.refl _,à _,q⟩) (λd _ i hi B L ⟨h,hs,z,k',F,I,o,A,E⟩=>by subst F I;obtain⟨q,s,D,p2,O,G,v⟩:=Ek (hs:=hs) w E #[];exact⟨_,_,_,rfl,v,q,s,D,some d,rfl,rfl,p2.trans o,by lia,G⟩);rw[lM,Ħ]at A;refine⟨hs,z,by lia,λy K=>o.mem_iff.mp (ă _ K),(ĥ.mp (o.nodup_iff.mpr k)).1,h,?_⟩;show zT (mX [#[l],#[a],#[4,0],none,none,none] (Wl S l x))=_;refine wC ?_;unfold mX;apply zA
 .unfold oR;simp? [p,dQ,eI w];rfl
 refine zA (ρ':=H6 l a ↑1 none) (S':=Wl (S++[.lst #[fs,8],.lst []]) l x) ?_ (zA (ρ':=H6 l a ↑1 k') (S':=Wl (S++[.lst #[h,8],.lst #[hs,8]]) l z) ?_ ?_)
 .unfold oS;simp? [dQ,eI r];rw[lA,aA];rfl
 .unfold oU;simp? [show(4:Int)+1=5 from rfl,xC (n:=5) (x:=x) (show l<(S++[MO.lst _,MO.lst []]).length by rw[lA];lia),sP (j:=x % 5) #[]];exact e
 unfold oV;exists 7,rfl
theorem YB(ds)(S):GH (.new ds) S=.ok ⟨ds,[]⟩ S:=rfl
theorem JL: ∀(cs:Za) Z ,Z[lc]? =#[all,2]-> ∃T:Sto,↑37=cs.length/\(∀o∈T, ∃x,o=.lst [.int x])/\yD (zV 0) gO wI [none] [(lc,all)] (cs.map MV.int) Z=.ok ((List.range' ↑17 cs.length).map MV.loc) (Z++T)
 |[],Z,_=>(ZB ([]) rfl (by simp) (by rw[aN];rfl))
 |c::cs,Z,h=>by
  obtain⟨t,j⟩:=dR c Z;have a:(Z++[MO.lst [.int t]])[lc]? =#[all,2]:=by rw[â (gS.mp h).1];exact h
  refine(JL cs _ a).b λT d i k=>?_;refine ZB _ (by rw[lC,lC,d]) (λo m=>(mC.mp m).elim (λe=>⟨t,e⟩) (i o)) ?_;have b:wI [#[c,0]] Z=#[[.int t],Z,2]:=by unfold wI;exists 7,j
  rw[å];unfold yD;rw[show zV 0 _ [none] Z=.ok [some _] Z from rfl,yS,bB,show gO [some _] Z=.ok true Z from rfl,yS,bB,b,yS,bB,show kE _ Z=.ok _ _ from rfl,bB,iP (yN a),k,aA];rw[lA,lS,lC];rfl
structure RI(S:Sto)(lr:Nat)(ws:Db)(rs:List Rw)(Z:Sto):Prop where
 old: ∃T,Z=S++T
 rw:Z[lr]? =#[rs.map zX,2]
 wl: ∀w∈ws,↑1<=w/\w≠lr/\ ∃x,Z[w]? =#[[.int x],2]
def Aw{S:Sto}(h:↑1<=w)(o): ∃j,(S++T).set w o=S++j:=⟨_,Ī _ _ h⟩
def RI.at(h:RI S lr ws rs Z){l:Nat}(e:S[l]? =some o):Z[l]? =some o:=by obtain⟨T,rfl⟩:=h.old;rw[â (gS.mp e).1];exact e
def RI.draw(h:RI S lr ws rs Z)(hw:w∈ws)(z):RI S lr ws rs (Wl Z w z):=by
 obtain⟨T,rfl⟩:=h.old;obtain⟨d,i,x,a⟩:=h.wl w hw;refine⟨Aw d _,?_,λv hv=>?_⟩
 .rw[tW i];exact h.rw
 .obtain⟨b,c,y,j⟩:=h.wl v hv;refine⟨b,c,?_⟩;by_cases e:w=v
  .subst e;exact⟨z,get_set a⟩
  .exact⟨y,by rw[tW e];exact j⟩
def RI.put(h:RI S lr ws rs Z)(a:↑1<=lr)(rs'):RI S lr ws rs' (Z.set lr (.lst #[rs',9])):=by obtain⟨T,rfl⟩:=h.old;refine⟨Aw a _,get_set h.rw,λv hv=>?_⟩;obtain⟨c,b,y,d⟩:=h.wl v hv;exact⟨c,b,y,by rw[AR (Ne.symm b)];exact d⟩
theorem YC(hV: ∀v∈vs,VS v)(h:Sa ts vs r):pd (zX r)=true/\DR (zX r)<30:=by
 have b:=mZ λc a=>by rcases hV c (h.2 c a)with⟨i,rfl⟩|⟨i,rfl⟩;exact le_of_eq (rH _);exact le_of_eq (fN _)
 unfold zX;rw[wA,yE,yE,wA,(cI λc a=>(eK (hV c (h.2 c a))).1),xP,yH,rH,yH,xP,tQ];refine⟨rfl,?_⟩
 lia
abbrev Sf(a:Nat)(b:Int)(ts:Tk)(p m:Nat)(k:Int)(lr:Nat)(w r:Y0):Rho:=[#[a],#[b,0],some (TT ts),#[p],#[30,0],#[m],#[k,0],#[lr],w,r]
section
theorem El(s:↑1<=lr)(D:S[p]? =#[vs,2])(hV: ∀d∈vs,VS d)(E:1<=↑10)(F:↑10<=4)(hT:Jy ts)(H:RI S lr ws rs Z)(n: ∀r∈rs,Sa ts vs r)(h:↑58<=30)(hw:w∈ws)(r0):
  ∃u I G,RI S lr ws u G/\(∀r∈u,Sa ts vs r)/\u.length<=30/\xI (Sf lc ex ts p m k lr #[w] r0) Z=#[Sf lc ex ts p m k lr #[w] I,G,0]:=by
 refine V0 λO=>?_;obtain⟨M,L,x,o⟩:=H.wl w hw;have K:=(gS.mp D).1;refine(F8 (gS.mp o).1 #[] (H.at D) hV E F hT x).d λr z c A=>?_;rw[(show Wl Z w x=Z by
   refine ext_getElem? λj=>?_;by_cases e:w=j
   .subst e;rw[get_set o,o]
   .rw[AR e])]at A;have b:=H.draw hw z;obtain⟨i,C⟩: ∃i,i=Wl Z w z:=⟨_,rfl⟩
 rw[<-C]at A b;have B:gP (Sf lc ex ts p m k lr #[w] r0) Z=#[Sf lc ex ts p m k lr #[w] (some (zX r)),i,0]:=by unfold gP;exists 7,A
 have a:=oA true b.rw (YC hV c).1 λy J=>by refine(mM.mp J).a λq v g=>?_;subst g;have:=YC hV (n q v);exact⟨this.1,by lia⟩
 refine O ?_;by_cases hm:zX r∈rs.map zX
 .refine(YR rs (some (zX r)) i ⟨b,n,h,?_⟩);unfold xI;rw[zD B];unfold wK;simp? [a,dT0 hm,Ĩ,fT,iF]
 .by_cases N:↑58<30
  .refine(YR _ (some (zX r)) _ ⟨b.put s _,λq v=>(ê.mp v).elim (n q) λz=>by rw[mS.mp z];exact c,by simp;lia,?_⟩);unfold xI;rw[zD B];unfold wK;simp? [a,dF0 hm,Bool.not_false,gA b.rw,lM,lt_int,show decide ((rs.length:Int)<30)=true from dT0 #[],yX b.rw,xO b.rw (by rw[lM];lia),ñ,å,ň]
  .refine(YR rs (some (zX r)) i ⟨b,n,h,?_⟩);unfold xI;rw[zD B];unfold wK;simp? [a,dF0 hm,Bool.not_false,gA b.rw,lM,lt_int,show decide ((rs.length:Int)<30)=false from dF0 #[],fT,iF]
theorem UR(c:↑1<=lr)(s:S[p]? =#[vs,2])(hV: ∀d∈vs,VS d)(n:1<=↑10)(o:↑10<=4)(hT:Jy ts): ∀(us:Db),(∀u∈us,u∈ws)-> ∀ rs  Z  a b ,RI S lr ws rs Z->(∀r∈rs,Sa ts vs r)->↑58<=30->
  ∃j G Q N,RI S lr ws j G/\(∀r∈j,Sa ts vs r)/\↑44<=30/\yZ (zV 8) xI [] (us.map MV.loc) (Sf lc ex ts p m k lr a b) Z=#[Sf lc ex ts p m k lr Q N,G,0]
 |[],_,rs,Z,a,b,H,hr,h40=>(YQ rs Z a b ⟨H,hr,h40,rfl⟩)
 |u::us,hu,rs,Z,a,b,H,hr,h40=>by refine V0 λg=>?_;obtain⟨z,I,O,L,B,q,J⟩:=El c s hV n o hT H hr h40 (hu u mF0) b;obtain⟨h,A,D,w,C,i,e,y⟩:=UR c s hV n o hT us (λv hv=>hu v (mO _ hv)) z O _ I L B q;refine g ?_;refine YQ h A D w ⟨C,i,e,?_⟩;rw[å,zW rfl J (wQ _)];exact y
end
theorem Sh(L:S[p]? =#[vs,2])(hV: ∀d∈vs,VS d)(G:1<=↑10)(Q:↑10<=4)(hT:Jy ts)(ex){cs:Za}(hc:cs.length<=63):
  ∃rs:List Rw,(∀r∈rs,Sa ts vs r)/\↑58<=30/\zE 5 mV [.new (cs.map MV.int),#[ex,5],.val (TT ts),#[p,1],#[30,5]] S=#[rs.map zX,S,2]:=by
 refine V0 λV=>?_;obtain⟨t,k⟩:=dR ex (S++[.lst (cs.map MV.int)]);obtain⟨a,b⟩: ∃a,a=S++[MO.lst (cs.map MV.int)]:=⟨_,rfl⟩
 have D:↑67=↑1+1:=by rw[b];simp
 rw[<-b]at k;have U:nN [#[↑1],#[ex,0],some (TT ts),#[p],#[30,0],none,none,none,none,none] a=#[[#[↑1],#[ex,0],some (TT ts),#[p],#[30,0],#[↑67],none,none,none,none],Wl (a++[.lst []]) ↑67 t,0]:=by unfold nN;simp? [k];rw[pS]
 have C:↑67<(a++[MO.lst []]).length:=by simp
 have I:nO [#[↑1],#[ex,0],some (TT ts),#[p],#[30,0],#[↑67],none,none,none,none] (Wl (a++[.lst []]) ↑67 t)=#[[#[↑1],#[ex,0],some (TT ts),#[p],#[30,0],#[↑67],#[t % 20,0],none,none,none],a++[.lst [.int (t / 20)]],0]:=by unfold nO;simp? [xC (n:=20) C];rw[pS]
 obtain⟨i,c⟩: ∃i,i=a++[MO.lst [.int (t / 20)],MO.lst []]:=⟨_,rfl⟩
 have l2:i.length=↑1+3:=by rw[c];simp[D]
 have W:nP [#[↑1],#[ex,0],some (TT ts),#[p],#[30,0],#[↑67],#[t % 20,0],none,none,none] (a++[.lst [.int (t / 20)]])=#[Sf ↑1 ex ts p ↑67 (t % 20) (↑1+2) none none,i,0]:=by unfold nP;simp? [bB];rw[lA,D,aA,c];rfl
 have m:i[↑1]? =#[cs.map MV.int,2]:=by rw[c,b];simp
 refine(JL cs i m).b λT t1 P M=>?_;have k1:t % 20<20:=eL _ ↑11;obtain⟨q,o⟩: ∃q:List Nat,q=List.range' i.length cs.length++List.replicate (t % 20).toNat a.length:=⟨_,rfl⟩
 have s: ∀Y,BF (.new [.loc ↑67]) #[t % 20,5] Y=#[(List.replicate (t % 20).toNat ↑67).map MV.loc,Y,2]:=λY=>by
  show(if 0<=t % 20/\t % 20<100000/\[MV.loc ↑67].length * (t % 20).toNat<=sizeLine then _ else _)=_;rw[iP ⟨(eN _ ↑11),by lia,fits (by simp;lia)⟩]
  have B: ∀n:Nat,(List.replicate n [MV.loc ↑67]).flatten=(List.replicate n ↑67).map MV.loc:=λn=>by
   induction n with
   |zero=>rfl
   |succ n ih=>rw[ē,flatten_cons,ih,ē];rfl
  rw[B]
 have v: ∀Y,jU (.new _) (.new _) Y=#[q.map MV.loc,Y,2]:=λY=>by rw[o,ñ];exact XB rfl rfl (fits (by rw[lM,lM,List.length_range',đ];lia))
 have K:RI S (↑1+2) q [] (i++T):=by
  refine⟨⟨[.lst (cs.map MV.int),.lst [.int (t / 20)],.lst []]++T,by rw[c,b];simp⟩,?_,λw hw=>?_⟩
  .rw[â #[],c,b];simp
  .rw[o]at hw;rcases ê.mp hw with hw|hw
   .refine(List.mem_range'.mp hw).a λj hj g=>?_;subst g;refine⟨by lia,by lia,?_⟩;rw[æ #[],show i.length+1 * j - i.length=j by lia,gE #[]];obtain⟨x,F⟩:=P _ (ŀ (show j<↑37 by lia));exact⟨x,by rw[F]⟩
   .rw[(List.mem_replicate.mp hw).2];refine⟨by lia,by lia,t / 20,?_⟩;rw[â #[],c,æ #[],sub_self];rfl
 obtain⟨rs,J,N,X,H,E,A,e⟩:=UR #[] L hV G Q hT q (λu h=>h) [] (i++T) none none K (by simp) (by simp);have O:nQ (Sf ↑1 ex ts p ↑67 (t % 20) (↑1+2) none none) i=#[Sf ↑1 ex ts p ↑67 (t % 20) (↑1+2) N X,J,0]:=by unfold nQ;simp? [xX m,lM,show cs.length<1000000 by lia];rw[show vH 1 [] _=[none]from rfl,M];simp? [lst1,s,v,YB];exact e
 obtain⟨T',y⟩:=H.old;refine V ?_;refine ZB rs E A (cJ (S2:=a) rfl (by rw[b];rfl) ?_ (.inr ⟨↑1+2,rfl,by lia,by rw[<-y];exact H.rw⟩) (aM λd Z=>by refine(mM.mp Z).a λr z u=>?_;subst u;exact lV (YC hV (E r z)).1));show zT (mU [#[↑1],#[ex,0],some (TT ts),#[p],#[30,0],none,none,none,none,none] a)=_;unfold mU;rw[zD U,zD I,zD W,zD O, <-y];rfl
abbrev Ev:=List (MV×MV)
def pT(E:Ev):Prop:= ∀p∈E,(∃x,p.1=.str x)/\VS p.2
noncomputable def isv:MV->MV
 |.tup [_,v]=>v
 |_=>.non
noncomputable def xT:List MV->List MV->Ev->Option Ev
 |t::ts,c::cs,E=>match vn t with
  |some x=>match look E (.str x)with
   |none=>xT ts cs (E++[(.str x,c)])
   |some d=>if d=c then xT ts cs E else none
  |none=>if isv t=c then xT ts cs E else none
 |_,_,E=>some E
def rK(x)(c)(ts cs)(E):xT (.tup [.str KD,.str x]::ts) (c::cs) E=match look E (.str x)with |none=>xT ts cs (E++[(.str x,c)])|some d=>if d=c then xT ts cs E else none:=by
 conv=>lhs;unfold xT
 rw[EW]
theorem EY(v c)(ts cs)(E):xT (.tup [.str IS,v]::ts) (c::cs) E=if v=c then xT ts cs E else none:=by
 conv=>lhs;unfold xT
 rw[MY];rfl
theorem US(V F)(k):look (V++F) k=(look V k).or (look F k):=by unfold look;rw[List.find?_append];cases V.find? (λp=>decide (p.1=k))<;>rfl
def CY(h:pT E)(e:look E k=some d):VS d:=by refine(Option.map_eq_some_iff.mp e).a λp a b=>?_;subst b;exact(h p (List.mem_of_find?_eq_some a)).2
def UT(e:look E k=some d): ∃p∈E,p.1=k:=by refine(Option.map_eq_some_iff.mp e).a λp a b=>?_;subst b;exact Z3 p (List.mem_of_find?_eq_some a) (by simpa using List.find?_some a)
def HC(e:look E k=none): ∀p∈E,p.1≠k:=λp a h=>by unfold look at e;rw[Option.map_eq_none_iff,List.find?_eq_none]at e;exact e p a (dT0 h)
theorem UU: ∀ ts cs  F G ,xT ts cs F=some G->(F.map (·.1)).Nodup->(G.map (·.1)).Nodup/\ ∀p∈G,p∈F\/ ∃t∈ts, ∃x,vn t=some x/\p.1=.str x
 |[],_,F,G,h,nd=>by cases h;exact⟨nd,λp j=>.inl j⟩
 |t::ts,[],F,G,h,nd=>by cases h;exact⟨nd,λp j=>.inl j⟩
 |t::ts,c::cs,F,G,h,nd=>by
  have u: ∀{m:Ev},xT ts cs m=some G->(m.map (·.1)).Nodup->(∀p∈m,p∈F\/ ∃x,vn t=some x/\p.1=.str x)->(G.map (·.1)).Nodup/\ ∀p∈G,p∈F\/ ∃t'∈t::ts, ∃x,vn t'=some x/\p.1=.str x:=λh d o=>by
   obtain⟨a,b⟩:=UU ts cs _ G h d;refine⟨a,λp j=>?_⟩;rcases b p j with q|⟨t',ht,x,e1,e2⟩
   .rcases o p q with q|⟨x,e1,e2⟩
    .exact .inl q
    .exact .inr ⟨t,mF0,x,e1,e2⟩
   .exact .inr ⟨t',mO _ ht,x,e1,e2⟩
  unfold xT at h;split at h
  .rename_i x i;split at h
   .rename_i k;refine u h ?_ λp j=>?_
    .rw[ñ,ĥ];refine⟨nd,by simp,λa n b e=>?_⟩;rw[å,ň,mS]at e;refine(mM.mp n).a λp j g=>?_;subst g;rw[e];exact HC k p j
    .rcases ê.mp j with j|j
     .exact .inl j
     .rw[mS.mp j];exact .inr ⟨x,i,rfl⟩
   .split at h
    .exact u h nd λp j=>.inl j
    .cases h
  .split at h
   .exact u h nd λp j=>.inl j
   .cases h
theorem tX{V:Ev}(h:look V k=none):putK V k d=V++[(k,d)]:=by unfold putK;rw[h];rfl
theorem uW: ∀ ts cs  F G ,xT ts cs F=some G->pT F->(∀c∈cs,VS c)->pT G
 |[],_,F,G,h,hF,_=>by cases h;exact hF
 |t::ts,[],F,G,h,hF,_=>by cases h;exact hF
 |t::ts,c::cs,F,G,h,hF,hc=>by
  have j:=λd b=>hc d (mO _ b);unfold xT at h;split at h
  .rename_i x e;split at h
   .refine uW ts cs _ G h (λp a=>?_) j;rcases ê.mp a with a|a
    .exact hF p a
    .rw[mS.mp a];exact⟨⟨x,rfl⟩,hc c mF0⟩
   .split at h
    .exact uW ts cs F G h hF j
    .cases h
  .split at h
   .exact uW ts cs F G h hF j
   .cases h
theorem fX(C)(k x j):look (C++[(k,x)]) j=(look C j).or (if k=j then some x else none):=by
 rw[US];unfold look;rw[find?_cons];by_cases h:k=j
 .rw[iP h,dT0 h];rfl
 .rw[iN h,dF0 h];rfl
theorem QV: ∀ ts cs  E G ,xT ts cs E=some G->ts.length<=cs.length->(∀k,look E k≠none->look G k≠none)/\ ∀t∈ts, ∀x,vn t=some x->look G (.str x)≠none
 |[],_,E,G,h,_=>by cases h;exact⟨λk h=>h,λt u=>by simp at u⟩
 |t::ts,[],E,G,h,hl=>by simp at hl
 |t::ts,c::cs,E,G,h,hl=>by
  rw[lC,lC]at hl
  have q: ∀{F:Ev},xT ts cs F=some G->(∀k,look E k≠none->look F k≠none)->(∀x,vn t=some x->look F _≠none)->_/\ ∀t'∈t::ts, ∀x,vn t'=some x->look G _≠none:=λp n o=>by
   obtain⟨a,b⟩:=QV ts cs _ G p #[];refine⟨λk j=>a k (n k j),λt' m x i=>?_⟩;rcases mC.mp m with rfl|m
   .exact a _ (o x i)
   .exact b t' m x i
  unfold xT at h;split at h
  .rename_i x i;split at h
   .rename_i hn;refine q h (λk j=>?_) λy e=>?_
    .rw[US]
     cases z:look E k with
     |none=>exact absurd z j
     |some d=>simp
    .rw[i]at e;cases e;rw[fX];simp
   .rename_i d r;split at h
    .exact q h (λk j=>j) λy e=>by rw[i]at e;cases e;rw[r];simp
    .cases h
  .rename_i i;split at h
   .exact q h (λk j=>j) λy e=>by rw[i]at e;cases e
   .cases h
theorem HD: ∀ ts cs  F G ,xT ts cs F=some G->G.length<=F.length+ts.length
 |[],_,F,G,h=>by cases h;simp
 |t::ts,[],F,G,h=>by cases h;simp
 |t::ts,c::cs,F,G,h=>by
  rw[lC];unfold xT at h;split at h
  .split at h
   .have:=HD ts cs _ G h;rw[lA,lS]at this;lia
   .split at h
    .have:=HD ts cs F G h;lia
    .cases h
  .split at h
   .have:=HD ts cs F G h;lia
   .cases h
section
def vS(h:S[l]? =#[E,7])(b:pT E):CB S #[l,1]=some (l,E):=Ka h ((by rw[ÿ];intro p a;obtain⟨x,e⟩:=(b p a).1;rw[e];rfl))
theorem CZ(h:S[l]? =#[E,7])(a:pT E):KW #[l,1] S=true:=by unfold KW;rw[vS h a];rfl
theorem Km(h:S[l]? =#[E,7])(b:pT E)(a:look E (.str x)=some d):UA #[l,1] (.val (.str x)) S=#[d,S,1]:=by unfold UA;rw[vS h b];dsimp only;rw[a];rfl
theorem Si(h:S[l]? =#[E,7])(a:pT E)(x):CD #[l,1] [.val (.str x)] S=#[(look E (.str x)).getD .non,S,1]:=by unfold CD;rw[vS h a];rfl
def Sj(h:S[l]? =#[E,7])(b:pT E)(hz:E.length<1000000)(a:look E (.str x)=some d):Jc #[l,1] [.val (.str x),.val c] S=#[d,S,1]:=by show TX _ _ _ S=_;unfold TX;rw[vS h b];dsimp only;rw[iP ⟨rfl,hz⟩,a]
def Sk(h:S[l]? =#[E,7])(b:pT E)(hz:E.length<1000000)(a:look E (.str x)=none):Jc #[l,1] [.val (.str x),.val c] S=#[c,S.set l (.dic (E++[(.str x,c)])),1]:=by show TX _ _ _ S=_;unfold TX;rw[vS h b];dsimp only;rw[iP ⟨rfl,hz⟩,a];rw[tX a]
end
theorem DA(b:pd d=true)(a:pd e=true)(h:DR d<40):KO (.val d) (.val e) S=#[.bl (!decide (d=e)),S,1]:=Ic (tS _ b a (by unfold zK;lia))
noncomputable abbrev FT(lt cs:X0)(n:Nat)(a b c:Y0):Rho:=[#[lt,3],#[cs,3],#[n],a,b,c]
def Sl(r:xK t)(n:VS c)(b:pT E)(hz:E.length<1000)(o):
  (∃F e,(∀ts cs,xT (t::ts) (c::cs) E=xT ts cs F)/\pT F/\F.length<=E.length+1/\xU (FT lt cs0 ↑1 (some t) (some c) o) ↑39=#[FT lt cs0 ↑1 (some t) (some c) (some e),S++[.dic F],0])\/
  ((∀ts cs,xT (t::ts) (c::cs) E=none)/\xU (FT lt cs0 ↑1 (some t) (some c) o) ↑39=.ok (.ret (.val .non)) ↑39):=by
 have j:(S++[.dic E])[↑1]? =#[E,7]:=zL _ _
 have m: ∀(d:MV)(k:Ev),VS d->dZ (FT lt cs0 ↑1 (some t) (some c) (some d)) (S++[.dic k])=if d=c then .ok _ (S++[.dic k])else .ok (.ret (.val .non)) (S++[.dic k]):=λd k q=>by
  unfold dZ;simp? [DA (eK q).1 (eK n).1 (eK q).2];by_cases a:d=c
  .rw[dT0 a,iP a];rfl
  .rw[dF0 a,iN a];rfl
 unfold xU;rcases r with⟨x,rfl⟩|⟨v,hv,rfl⟩
 .cases z:look E (.str x)with
  |none=>
   have i:yT (FT lt cs0 ↑1 #[[.str KD,.str x],3] (some c) o) ↑39=#[FT lt cs0 ↑1 #[[.str KD,.str x],3] (some c) (some c),S++[.dic (E++[(.str x,c)])],0]:=by unfold yT;simp? [JE,LA,FS,CZ j b,Sk j b (show E.length<1000000 by lia) z,wL]
   refine .inl (Ym _ c (λts cs=>by rw[rK,z]) (λp h=>?_) (by simp) ?_)
   .rcases ê.mp h with h|h
    .exact b p h
    .rw[mS.mp h];exact⟨⟨x,rfl⟩,n⟩
   .rw[zD i,m c _ n,iP rfl]
  |some d=>
   have i:yT (FT lt cs0 ↑1 #[[.str KD,.str x],3] (some c) o) ↑39=#[FT lt cs0 ↑1 #[[.str KD,.str x],3] (some c) (some d),S++[.dic E],0]:=by unfold yT;exists 7,JE,LA,FS,CZ j b,Sj j b (show E.length<1000000 by lia) z
   refine qq (zD i) (qq (m d _ (CY b z)) ?_);by_cases a:d=c
   .exact .inl (Ym E d (λts cs=>by rw[rK,z];exact iP a) b (by lia) (by rw[iP a]))
   .exact .inr ⟨λts cs=>by rw[rK,z];exact iN a,by rw[iN a]⟩
 .have i:yT (FT lt cs0 ↑1 #[[.str IS,v],3] (some c) o) ↑39=#[FT lt cs0 ↑1 #[[.str IS,v],3] (some c) (some v),S++[.dic E],0]:=by unfold yT;exists 7,JE,LA,JD,fT,iF
  refine qq (zD i) (qq (m v _ hv) ?_);by_cases a:v=c
  .exact .inl (Ym E v (λts cs=>by rw[EY,iP a]) b (by lia) (by rw[iP a]))
  .exact .inr ⟨λts cs=>by rw[EY,iN a],by rw[iN a]⟩
theorem Kn: ∀ ts cs  E  a b c ,(∀t∈ts,xK t)->(∀c∈cs,VS c)->pT E->E.length+ts.length<1000->
  (∃F z q u,xT ts cs E=some F/\yZ ↑23 xU [] (pairs ts cs) (FT lt cs0 ↑1 a b c) ↑39=#[FT lt cs0 ↑1 z q u,S++[.dic F],0])\/
  (xT ts cs E=none/\ ∃j,yZ ↑23 xU [] (pairs ts cs) (FT lt cs0 ↑1 a b c) ↑39=.ok (.ret (.val .non)) (S++[.dic j]))
 |[],cs,E,a,b,c,_,_,_,_=>.inl (YQ E a b c ⟨rfl,rfl⟩)
 |t::ts,[],E,a,b,c,_,_,_,_=>.inl (YQ E a b c ⟨rfl,rfl⟩)
 |t::ts,d::cs,E,a,b,c,ht,hc,hE,hz=>by
  rw[lC]at hz;have m:iB 2 (zB (zV 3) (zB (zV 4) zY)) (.tup [t,d]) (FT lt cs0 ↑1 a b c) ↑39=.ok _ ↑39:=rfl;rcases Sl (ht t mF0) (hc d mF0) hE #[] c with⟨F,e,h1,h2,h3,h4⟩|⟨h1,h4⟩
  .show(∃F z q u,_/\yZ _ _ _ (.tup [t,d]::pairs ts cs) _ _=_)\/(_/\ ∃j,yZ _ _ _ (.tup [t,d]::pairs ts cs) _ _=_)
   rw[zW m h4 ((λj=>wQ _) F),h1];exact Kn ts cs F (some t) (some d) (some e) (λt h=>ht t (mO _ h)) (λt h=>hc t (mO _ h)) h2 #[]
  .refine .inr ⟨h1 ts cs,E,?_⟩;show yZ _ _ _ (.tup [t,d]::pairs ts cs) _ _=_;rw[ZM m h4]
def QW:pT []:=λp h=>by simp at h
theorem zBA(i: ∀t∈ts,xK t)(j: ∀c∈cs,VS c)(hz:ts.length<900):
  zE 2 fU [#[ts,6],#[cs,6]] S=match xT ts cs []with |some F=>.ok #[S.length,1] (S++[.dic F])|none=>#[.non,S,1]:=by
 have h:mL [#[ts,3],#[cs,3],none,none,none,none] S=#[FT ts cs ↑1 none none none,S++[.dic []],0]:=by unfold mL;exists 7,BR
 have e:mN (FT ts cs ↑1 none none none) (S++[.dic []])=yZ ↑23 xU [] (pairs ts cs) (FT ts cs ↑1 none none none) (S++[.dic []]):=by unfold mN;exists 7,rfl
 rcases Kn ts cs [] none none none i j QW (by simp only[ø];lia)with⟨F,a,b,c,h1,h2⟩|⟨h1,E',h2⟩
 .rw[h1];dsimp only;have d:fU [.tup ts,.tup cs] S=.ok #[↑1,1] (S++[.dic F]):=by show zT (fS [#[ts,3],#[cs,3],none,none,none,none] S)=_;unfold fS;rw[zD h,zD (e.trans h2)];rfl
  exact UN rfl d
 .rw[h1];dsimp only;have d:fU [.tup ts,.tup cs] S=#[.non,S++[.dic E'],1]:=by show zT (fS [#[ts,3],#[cs,3],none,none,none,none] S)=_;unfold fS;rw[zD h,bG (e.trans h2)];rfl
  exact pG rfl d (WZ _) (λl=>by simp)
def Ko(h:S[l]? =#[E,7])(a:pT E):TV [#[l,1]] S=.ok #[↑1,1] ↑39:=by unfold TV;dsimp only;rw[vS h a]
noncomputable abbrev D4(m:MV)(n:Nat)(a t:Y0):Rho:=[some m,#[n],a,t]
theorem JM: ∀ j ,(∀d∈j,xK d)-> ∀ ks  t ,ks.length+↑44<100000->
  ∃t',yZ (zV 3) bL [] j (D4 m ↑1 a t) (S++[.dic (dT ks)])=#[D4 m ↑1 a t',S++[.dic (dT (yP ks (j.filterMap vn)))],0]
 |[],_,ks,t,_=>⟨t,rfl⟩
 |d::j,hT,ks,t,hl=>by
  rw[lC]at hl;rcases hT d mF0 with⟨x,rfl⟩|⟨v,hv,rfl⟩
  .have q:=JG ks x;obtain⟨t',c⟩:=JM j (λe b=>hT e (mO _ b)) (AS ks x) #[[.str KD,.str x],3] #[];refine⟨t',?_⟩;rw[zW rfl ?_ (wQ _)]
   .rw[ĳ,EW];exact c
   .unfold bL bK;simp? [JE,LA,FS,rG,Rt (zL S (.dic (dT ks))) #[],wL]
  .obtain⟨t',c⟩:=JM j (λe b=>hT e (mO _ b)) ks #[[.str IS,v],3] #[];refine⟨t',?_⟩;rw[zW rfl ?_ (wQ _)]
   .rw[ĳ,MY];exact c
   .unfold bL bK;exists 7,JE,LA,JD,fT,iF
theorem Kp(c: ∀T,stay gs (S++T)): ∀ as ,(∀b∈as,(∀d∈b.2,xK d)/\b.2.length<=4)-> ∀ ks  a t ,ks.length+100 * as.length<50000->
  ∃j t',yZ (zV 2) bM gs #[as,9] (D4 m ↑1 a t) (S++[.dic (dT ks)])=#[D4 m ↑1 j t',S++[.dic (dT (yP ks (wF as)))],0]
 |[],_,ks,a,t,_=>(Yk a t rfl)
 |p::ps,h,ks,a,t,hl=>by
  rw[20];rw[lC]at hl;have u:=h p mF0;have o:=u.2;obtain⟨e,i⟩:=JM p.2 u.1 ks t #[];have r:bM (D4 m ↑1 (some (zX p)) t) (S++[.dic (dT ks)])=#[D4 m ↑1 (some (zX p)) e,S++[.dic (dT (yP ks (p.2.filterMap vn)))],0]:=by unfold bM iL;exists 7,show∀Z,jV (.val (zX p)) #[1,5] Z=.ok _ Z from λ_=>rfl,oW,i
  have s:=tU (p.2.filterMap vn) ks;have v:(p.2.filterMap vn).length<=p.2.length:=Ĳ _ _;obtain⟨j,t',n⟩:=Kp c ps (λq k=>h q (mO _ k)) (yP ks (p.2.filterMap vn)) (some (zX p)) e #[];refine g ?_;refine Yk j t' ?_;rw[å,zW rfl r (c _),n];show _=R.ok _ (S++[.dic (dT (yP ks (p.2.filterMap vn++wF ps)))]);rw[UQ]
theorem zBB(hm:SqM S m #[as,9])(h:↑9)(o:as.length<=100):yV [m] S=#[(yP [] (wF as)).map MV.str,S++[.dic (dT (yP [] (wF as)))],2]:=by
 rw[20];refine hm.itQ.a λp i hi=>?_;obtain⟨c,a,j⟩:=Kp i as h [] none none (by simp only[ø];lia);have n:fA [some m,none,none,none] S=#[D4 m ↑1 none none,S++[.dic (dT [])],0]:=by unfold fA;exists 7,BR
 have e:fB (D4 m ↑1 none none) (S++[.dic (dT [])])=#[D4 m ↑1 c a,S++[.dic (dT (yP [] (wF as)))],0]:=by unfold fB;exists 7,hi [.dic (dT [])],j
 have k:fC (D4 m ↑1 c a) (S++[.dic (dT (yP [] (wF as)))])=.ok (.ret (.new ((yP [] (wF as)).map MV.str))) (S++[.dic (dT (yP [] (wF as)))]):=by unfold fC;exists 7,Kb (zL S _)
 refine g ?_;show zT (qP [some m,none,none,none] S)=_;unfold qP;rw[zD n,zD e,k];rfl
def Ud(hm:SqM S m #[as,9])(h:↑9)(a:as.length<=100):zE 1 yV [.val m] S=#[(yP [] (wF as)).map MV.str,S,2]:=
 BP rfl (zBB hm h a) (uU _ _)
theorem F9(h:↑9)(a:as.length<=100):zE 1 yV [.new #[as,9]] S=#[(yP [] (wF as)).map MV.str,S,2]:=by refine cJ rfl (show zG [.new _] S=([.loc ↑1],S++[.lst _])from rfl) (T:=[.lst #[as,9],.dic (dT (yP [] (wF as)))]) ?_ (.inl rfl) (uU _ _);rw[zBB (.inr ⟨_,rfl,zL _ _⟩) h a,aA];rfl
def vD(E:Ev)(x:Db):MV:=(look E (.str x)).getD .non
theorem jR(h:look E (.str x)=some d):vD E x=d:=by unfold vD;rw[h];rfl
theorem Ax{xs:Ch}(h:S[l]? =#[E,7])(j:pT E)(hm:SqM S m #[xs,8])(k: ∀x∈xs,look E (.str x)≠none)(p:↑8<1000):zE 2 yI [#[l,1],.val m] S=.ok #[xs.map (vD E),6] S:=by
 refine hm.itQ.a λo c hi=>?_;have c:=c [];have hi:=hi [];rw[aN]at c hi
 have hv: ∀x∈xs, ∃d,look E (.str x)=some d/\VS d:=λx a=>by
  cases z:look E _ with
  |none=>exact absurd z (k x a)
  |some d=>exact⟨d,rfl,CY j z⟩
 have n:yD (zV 0) aS gC [none,#[l]] o _ S=.ok _ S:=
  fV (g:=vD E) c λx a=>by refine(hv x a).a λd b _=>?_;refine ZB ([#[x,4],some _]) rfl rfl ?_;unfold gC;simp? [Km h j b];rw[jR b]
 have i:pd (.tup (xs.map (vD E)))=true:=by refine cI λd b=>?_;refine(mM.mp b).a λx a q=>?_;subst q;refine(hv x a).a λd b e=>?_;rw[jR b];exact(eK e).1
 refine cV rfl ?_ (lV i) (λl=>by simp);show zT (mR [some _,some m] S)=_;unfold mR oK;simp? [hi,lM,show ↑8<1000000 by lia];rw[show vH 1 [0] [some _,some m]=[none,some _]from rfl,n];rfl
def NA(hn:↑58=n)(a:F (zG rs S).1 (zG rs S).2=#[ds,S++T,2]): ∃j,zE n F rs S=#[ds,S++j,2]/\(j=T\/j=[]/\AW ↑1 ds):=by
 unfold zE;rw[iP hn,a];show∃j,jL S _ _=_/\_;unfold jL;rw[iP sO];dsimp only;split
 .rename_i h;exact⟨[],by rw[aN,List.take_left'];rfl,.inr ⟨rfl,h⟩⟩
 .exact⟨T,rfl,.inl rfl⟩
def FtO(Z:Sto)(n:Nat)(mk:Int):List MV->List (Option Ev)->Prop
 |[],[]=>True
 |w::ws,some G::gs=>(∃e,w=.tup [.loc e,.int mk]/\n<=e/\Z[e]? =#[G,7])/\FtO Z n mk ws gs
 |w::ws,none::gs=>w=.tup [.non,.int mk]/\FtO Z n mk ws gs
 |_,_=>False
theorem FtO.grow{mk:Int}: ∀{ws}{j},FtO Z n mk ws j->FtO (Z++T) n mk ws j
 |[],[],_=>trivial
 |w::ws,some G::j,h=>⟨let ⟨e,a,b,c⟩:=h.1;(ZB e a b (by rw[â (gS.mp c).1];exact c)),FtO.grow h.2⟩
 |w::ws,none::j,h=>⟨h.1,FtO.grow h.2⟩
 |[],_::_,h=>h.elim
 |_::_,[],h=>h.elim
def Fts(Z:Sto)(n:Nat)(mk:Int):List MV->List Ev->Prop
 |[],[]=>True
 |w::ws,G::gs=>(∃e,w=.tup [.loc e,.int mk]/\n<=e/\Z[e]? =#[G,7])/\Fts Z n mk ws gs
 |_,_=>False
theorem Fts.grow{mk:Int}: ∀{ws}{j},Fts Z n mk ws j->Fts (Z++T) n mk ws j
 |[],[],_=>trivial
 |w::ws,G::j,h=>⟨let ⟨e,a,b,c⟩:=h.1;(ZB e a b (by rw[â (gS.mp c).1];exact c)),Fts.grow h.2⟩
 |[],_::_,h=>h.elim
 |_::_,[],h=>h.elim
def Fts.len{mk:Int}: ∀{ws}{j},Fts Z n mk ws j->ws.length=↑44
 |[],[],_=>rfl
 |_::_,_::_,h=>by rw[lC,lC,h.2.len]
 |[],_::_,h=>h.elim
 |_::_,[],h=>h.elim
theorem Fts.cut{mk:Int}(h:Fts Z n mk ws gs)(l:AW m ws)(a:m<=n):Fts Z' n mk ws gs:=by
 cases ws with
 |nil=>cases gs with
  |nil=>trivial
  |cons G gs=>exact h.elim
 |cons w ws=>cases gs with
  |nil=>exact h.elim
  |cons G gs=>
   obtain⟨⟨e,rfl,b,_⟩,_⟩:=h;have:=l.1;have:=this.1;unfold lo at this
   lia
section
theorem QX(u:(∀d∈a.2,xK d)/\a.2.length<=4): ∀(rs:List Rw) Z ,Z[lr]? =#[R0,2]->Z[lm]? =#[M0,2]->n<=↑17->(∀r∈rs, ∀c∈r.2,VS c)->
  ∃out T,yD ↑33 nA xG [none,none,some (zX a)] [(lr,R0),(lm,M0)] (pairs #[rs,9] (rs.map λ_=>.int 1)) Z=.ok out (Z++T)/\FtO (Z++T) n 1 out ((rs.filter λr=>decide (r.1=a.1)).map λr=>xT a.2 r.2 [])/\out.length<=↑58
 |[],Z,_,_,_,_=>(Z0 ([]) ([]) (by rw[aN];rfl) trivial (à _))
 |r::rs,Z,h1,h2,h3,hv=>by
  have st: ∀{B:Sto},B[lr]? =some _->B[lm]? =some _->stay [(lr,R0),(lm,M0)] B:=λa b q i=>by
   simp only[mC,nM,or_false]at i;rcases i with rfl|rfl
   .exact a
   .exact b
  have w:iB 2 (zB (zV 0) (zB (zV 1) zY)) (.tup [zX r,.int 1]) [none,none,some _] Z=.ok [some _,some _,some (zX a)] Z:=rfl;have m:nA [some (zX r),#[1,0],some (zX a)] Z=.ok (decide (r.1=a.1)) Z:=by exists 7,i0
  have y:pairs ((r::rs).map zX) ((r::rs).map λ_=>MV.int 1)=.tup [zX r,.int 1]::pairs _ _:=rfl;by_cases e:r.1=a.1
  .have p:=zBA (S:=Z) u.1 (hv r mF0) #[];rw[dT0 e]at m
   cases z:xT a.2 r.2 []with
   |none=>
    rw[z]at p;have v:xG [some (zX r),#[1,0],some (zX a)] Z=.ok #[[.non,.int 1],6] Z:=by unfold xG;exists 7,i1,p
    refine(QX u rs Z h1 h2 h3 λq i=>hv q (mO _ i)).c λout T k j A=>?_;refine Z0 (.tup [.non,.int 1]::out) T ?_ ?_ (by rw[lC,lC];lia)
    .rw[y];exact CT w m v (st h1 h2) k
    .rw[List.filter_cons,iP (dT0 e),å,z];exact⟨rfl,j⟩
   |some G=>
    rw[z]at p;have s: ∀{l:Nat}{o:MO},Z[l]? =some o->(Z++[MO.dic G])[l]? =some o:=λh=>by rw[â (gS.mp h).1];exact h
    have v:xG [some (zX r),#[1,0],some (zX a)] Z=.ok #[[.loc ↑17,.int 1],6] (Z++[.dic G]):=by unfold xG;exists 7,i1,p
    refine(QX u rs _ (s h1) (s h2) (show n<=_ by rw[lA];lia) λq i=>hv q (mO _ i)).c λout T k j A=>?_;refine Z0 (.tup [.loc ↑17,.int 1]::out) (.dic G::T) ?_ ?_ (by rw[lC,lC];lia)
    .rw[y];rw[aA]at k;exact CT w m v (st (s h1) (s h2)) k
    .rw[List.filter_cons,iP (dT0 e),å,z];rw[aA]at j;exact⟨⟨_,rfl,h3,by simp⟩,j⟩
  .rw[dF0 e]at m;refine(QX u rs Z h1 h2 h3 λq i=>hv q (mO _ i)).c λout T k j A=>?_;refine Z0 out T ?_ ?_ (by rw[lC];lia)
   .rw[y];exact As w m (st h1 h2) k
   .rw[List.filter_cons,iN (by simpa using e)];exact j
theorem YD(a:Z[lf]? =#[all,2]): ∀ ws  j ,FtO Z n 1 ws j-> ∃out,yD ↑33 xH hX [none,none] [(lf,all)] ws Z=.ok out Z/\Fts Z n 1 out (j.filterMap id)
 |[],[],_=>(Z3 ([]) rfl trivial)
 |w::ws,some G::j,h=>by
  rw[20];obtain⟨⟨e,rfl,q,u⟩,m⟩:=h;refine(YD a ws j m).a λout c b=>?_;refine g ?_;refine⟨.tup [.loc e,.int 1]::out,?_,(ZB e rfl q u),b⟩;have d:xH [#[e],#[1,0]] Z=.ok true Z:=by unfold xH;exists 7,show∀Y,BH #[e,1] (.val .non) Y=.ok _ Y from λ_=>rfl
  have i:hX [#[e],#[1,0]] Z=.ok #[[.loc e,.int 1],6] Z:=by unfold hX;exists 7,rfl
  exact CT rfl d i (yN a) c
 |w::ws,none::j,h=>by
  obtain⟨rfl,m⟩:=h;refine(YD a ws j m).a λout c b=>?_;refine Z3 out ?_ b;have d:xH [some .non,#[1,0]] Z=.ok false Z:=by unfold xH;exists 7,show∀Y,BH (.val .non) (.val .non) Y=.ok _ Y from λ_=>rfl
  exact As rfl d (yN a) c
 |[],_::_,h=>h.elim
 |_::_,[],h=>h.elim
end
def cO(rows:List Rw)(a:Rw):List Ev:=(rows.filter λr=>decide (r.1=a.1)).filterMap λr=>xT a.2 r.2 []
theorem zBC(k:S[lr]? =#[rows.map zX,2])(hm:S[lm]? =some (.lst (rows.map λ_=>.int 1)))(hv: ∀r∈rows, ∀c∈r.2,VS c)(y:rows.length<=1000)(w:(∀d∈a.2,xK d)/\a.2.length<=4):
  ∃T ws,zE 3 pO [#[lr,1],#[lm,1],.val (zX a)] S=#[ws,S++T,2]/\Fts (S++T) ↑1 1 ws (cO rows a):=by
 refine(QX w rows S k hm (à _) hv).c λout T v s z=>?_;have e:Yx [#[lr,1],#[lm,1]] S=.ok ⟨pairs #[rows,9] (rows.map λ_=>.int 1),[(lr,rows.map zX),(lm,rows.map λ_=>.int 1)]⟩ S:=by unfold Yx srcOf;dsimp only;rw[k,hm];rfl
 have h: ∀(rs:List Rw),(pairs #[rs,9] (rs.map λ_=>MV.int 1)).length=rs.length:=λrs=>by
  induction rs with
  |nil=>rfl
  |cons r rs ih=>show(pairs _ _).length+1=_;rw[ih];rfl
 have p:mP [#[lr],#[lm],some (zX a),none] S=#[[#[lr],#[lm],some (zX a),#[(S++T).length]],S++T++[.lst out],0]:=by unfold mP;simp? [e,h,show rows.length<1000000 by lia];rw[show vH 2 [2] [some _,some _,some _,none]=[none,none,some _]from rfl,v];simp? []
 have j:=zL (S++T) (.lst out);refine(YD j out _ (FtO.grow s)).a λws o b=>?_;have u:mQ [#[lr],#[lm],some (zX a),#[(S++T).length]] (S++T++[.lst out])=.ok (.ret (.new ws)) (S++T++[.lst out]):=by unfold mQ;simp? [xX j,show out.length<1000000 by lia];rw[show vH 2 [] [some _,some _,some _,some _]=[none,none]from rfl,o];simp? []
 have i:((rows.filter λr=>decide (r.1=a.1)).map λr=>xT a.2 r.2 []).filterMap id=cO rows a:=by rw[List.filterMap_map];rfl
 rw[i]at b;refine(NA (F:=pO) (rs:=[.val _,.val _,.val _]) rfl (by show zT (uO [some _,some _,some _,none] S)=_;unfold uO;rw[zD p,u,aA];rfl)).a λq m n=>?_;refine YS q ws m ?_;rcases n with rfl|⟨rfl,hlo⟩
 .rw[<-aA];exact b
 .exact b.cut hlo (à _)
mutual
theorem Ay: ∀{d:MV},pd d=true-> ∃nk,yY d=some nk/\eM nk<=DR d
 |.int i,_=>⟨_,aB i,by rw[eM];exact zero_le _⟩
 |.str x,_=>⟨_,aC x,by rw[eM];exact zero_le _⟩
 |.tup ds,h=>by obtain⟨ks,j,m⟩:=UV (by rw[<-wA];exact h:VX ds=true);exact⟨.tup ks,by rw[aD,j];rfl,by rw[nV,xP];omega⟩
 |.non,h=>by rw[pd]at h<;>first |cases h|(intros;simp)
 |.bl _,h=>by rw[pd]at h<;>first |cases h|(intros;simp)
 |.scr _,h=>by rw[pd]at h<;>first |cases h|(intros;simp)
 |.loc _,h=>by rw[pd]at h<;>first |cases h|(intros;simp)
 |.typ _,h=>by rw[pd]at h<;>first |cases h|(intros;simp)
 |.obj _ _ _,h=>by rw[pd]at h<;>first |cases h|(intros;simp)
theorem UV: ∀{ds:X0},VX ds=true-> ∃ks,kD ds=some ks/\rO ks<=EV ds
 |[],_=>⟨[],pI,by rw[rO];exact zero_le _⟩
 |d::ds,h=>by rw[yE,aE]at h;obtain⟨k,j,m⟩:=Ay h.1;obtain⟨ks,a,b⟩:=UV h.2;exact⟨k::ks,by rw[cW,j,a];rfl,by rw[qC,yH];omega⟩
end
theorem JN(h: ∀d∈k,VS d):keyOk (.tup k)=true:=by
 have m:=mZ λc j=>by rcases h c j with⟨i,rfl⟩|⟨i,rfl⟩;exact le_of_eq (rH _);exact le_of_eq (fN _)
 refine(Ay (by rw[wA];exact cI λd e=>(eK (h d e)).1)).a λn b a=>?_;rw[xP]at a;unfold keyOk;rw[b];show(sR _&&decide _)=true;rw[dT0 #[]];rfl
noncomputable def kd(P:zA3):Ev:=P.map λk=>(.tup k,.int 1)
open Classical in
def UW(P:zA3)(k:X0):List (List MV):=if k∈P then P else P++[k]
def Az(P)(k j):j∈UW P k↔j∈P\/j=k:=by
 unfold UW;split
 .rename_i h;exact⟨.inl,λz=>z.elim id λe=>e▸h⟩
 .rw[ê,mS]
def H9(h:P.Nodup)(k):(UW P k).Nodup:=by
 unfold UW;split
 .exact h
 .rename_i c;exact ĥ.mpr ⟨h,by simp,λa d b e=>by rw[mS.mp e];rintro rfl;exact c d⟩
theorem HE(P)(k):(UW P k).length<=P.length+1:=by
 unfold UW;split
 .lia
 .rw[lA,lS];lia
def Ba(P)(k):look (kd P) (.tup k)=if k∈P then #[1,0]else none:=by
 induction P with
 |nil=>rfl
 |cons j P ih=>
  show look (_::kd P) _=_;rw[look_cons,ih];by_cases e:j=k
  .subst e;rw[iP rfl,iP mF0]
  .rw[iN (λz=>e (MV.tup.inj z))];by_cases h:k∈P
   .rw[iP h,iP (mO _ h)]
   .rw[iN h,iN λz=>(mC.mp z).elim (λz=>e z.symm) h]
theorem J3(P)(k):putK (kd P) (.tup k) (.int 1)=kd (UW P k):=by
 unfold putK UW;rw[Ba];by_cases h:k∈P
 .rw[iP h,iP (show(some _).isSome=true from rfl),iP h];unfold kd;rw[ħ];refine Ė λj _=>?_;show(if MV.tup j=.tup k then(MV.tup j,MV.int 1)else _)=_;split<;>rfl
 .rw[iN h,iN h];unfold kd;rw[ñ];rfl
theorem Kq(h:S[l]? =#[kd P,7]):jW S #[l,1]=some (l,kd P):=by unfold jW;dsimp only;rw[h];dsimp only;rw[iP];rw[ÿ];intro p a;refine(mM.mp a).a λr b c=>?_;subst c;rfl
def yR(xs:Ch)(G:Ev):List MV:=xs.map (vD G)
def RP(xs:Ch)(Gs:List Ev)(P:zA3):List (List MV):=Gs.foldl (λP G=>UW P (yR xs G)) P
def Has(xs:Ch)(G:Ev):Prop:=pT G/\ ∀x∈xs,look G (.str x)≠none
def Has.vs(h:Has xs G): ∀d∈yR xs G,VS d:=λd b=>by
 refine(mM.mp b).a λx a g=>?_;subst g
 cases z:look G _ with
 |none=>exact absurd z (h.2 x a)
 |some c=>rw[jR z];exact CY h.1 z
noncomputable abbrev CU(d:Nat)(m:MV)(n:Nat)(a b c:Y0):Rho:=[#[d],some m,#[n],a,b,c]
section
theorem Bb(k:B[lf]? =#[all,2])(hm:SqM B m #[xs,8])(A:↑8<1000): ∀ ws  Gs  P  a b c ,Fts B n0 1 ws Gs->(∀G∈Gs,Has xs G)->P.length+Gs.length<100000->
  ∃u z I,yZ ↑23 GX [(lf,all)] ws (CU lf m ↑5 a b c) (B++[.dic (kd P)])=#[CU lf m ↑5 u z I,B++[.dic (kd (RP xs Gs P))],0]
 |[],[],P,a,b,c,_,_,_=>(YR a b c rfl)
 |w::ws,G::Gs,P,a,b,c,q,hG,hl=>by
  rw[20];rw[lC]at hl;obtain⟨⟨e,rfl,_,L⟩,q⟩:=q;have j:=hG G mF0;obtain⟨Z,i⟩: ∃Z,Z=B++[MO.dic (kd P)]:=⟨_,rfl⟩
  have H: ∀{l:Nat}{o:MO},B[l]? =some o->Z[l]? =some o:=λh=>by rw[i,â (gS.mp h).1];exact h
  have M:Z[↑5]? =#[kd P,7]:=by rw[i];exact zL _ _
  have r:=Ax (H L) j.1 (by rw[i];exact hm.app) j.2 A;have d:=Kq M
  have n:CF #[↑5,1] [#[yR xs G,6],#[0,5]] Z=.ok #[if yR xs G∈P then 1 else 0,5] Z:=by
   unfold CF;dsimp only;rw[d];dsimp only;rw[iP (JN j.vs),Ba];by_cases h:yR xs G∈P
   .rw[iP h,iP h]
   .rw[iN h,iN h]
  have s: ∀Y,E1 #[if yR xs G∈P then 1 else 0,5] #[1,5] Y=.ok #[1,5] Y:=λY=>by split<;>rfl
  have p: ∀y,BU _ (.val _) (.int 1) y Z=.ok y _:=λy=>by unfold BU;dsimp only;rw[d];dsimp only;rw[iP ⟨JN j.vs,by unfold kd;rw[lM];lia⟩,J3,i,wL]
  have v:sW #[↑5,1] Z=true:=by unfold sW;rw[d];rfl
  have J:uP (CU lf m ↑5 #[e] #[1,0] c) Z=#[CU lf m ↑5 #[e] #[1,0] #[yR xs G,3],Z,0]:=by unfold uP;exists 7,r
  have E:uQ (CU lf m ↑5 #[e] #[1,0] #[yR xs G,3]) Z=#[CU lf m ↑5 #[e] #[1,0] #[yR xs G,3],B++[.dic (kd (UW P (yR xs G)))],0]:=by unfold uQ;exists 7,v,n,s,rG,p
  have F:=HE P (yR xs G);obtain⟨u,z,I,D⟩:=Bb k hm A ws Gs (UW P (yR xs G)) _ _ _ q (λK C=>hG K (mO _ C)) #[];refine g ?_;refine YR u z I ?_;rw[<-i,zW (show iB 2 _ _ _ Z=.ok (CU lf m ↑5 #[e] #[1,0] c) Z from rfl) (by unfold GX;rw[zD J,E]) (yN (by rw[â (gS.mp k).1];exact k))];exact D
 |[],_::_,_,_,_,_,h,_,_=>h.elim
 |_::_,[],_,_,_,_,h,_,_=>h.elim
end
noncomputable def dS(xs:Ch)(k:X0):Ev:=(xs.map MV.str).zip k
theorem UX: ∀(ps j:Ev),((j++ps).map (·.1)).Nodup->ps.foldl (λj p=>putK j p.1 p.2) j=j++ps
 |[],j,_=>by rw[aN];rfl
 |p::ps,j,h=>by
  have hn:look j p.1=none:=by
   cases z:look j p.1 with
   |none=>rfl
   |some d=>
    refine(UT z).a λq a e=>?_;rw[ñ,ĥ]at h;exact absurd e (h.2.2 q.1 (Ą a) p.1 (by rw[å];exact mF0))
  rw[ŏ,tX hn,UX ps _ (by rw[aA];exact h),aA];rfl
def J5(h:xs.Nodup): ∀k:List MV,((dS xs k).map (·.1)).Nodup:=λk=>by
 have hn:(xs.map MV.str).Nodup:=by unfold List.Nodup at h ⊢;rw[pairwise_map];exact h.imp λne e=>ne (MV.str.inj e)
 have: ∀(as bs:X0),as.Nodup->((as.zip bs).map (·.1)).Nodup:=λas=>by
  induction as with
  |nil=>intro bs _;simp
  |cons a as ih=>
   intro bs hn
   cases bs with
   |nil=>simp
   |cons b bs=>
    rw[nodup_cons]at hn;rw[ō,å,nodup_cons];refine⟨λz=>hn.1 ?_,ih bs hn.2⟩;refine(mM.mp z).a λp c e=>?_;have:=(of_mem_zip c).1;rw[e]at this;exact this
 exact this _ k hn
def zBD(hm:SqM Z m #[xs,8])(hn:xs.Nodup):N8 [.val m,#[k,6]] Z=.ok #[↑17,1] (Z++[.dic (dS xs k)]):=by
 have b:(xs.map MV.str).all vB=true:=by rw[ÿ];intro d c;refine(mM.mp c).a λx _ g=>?_;subst g;rfl
 have a:Tw ((xs.map MV.str).zip k)=dS xs k:=by have:=UX _ [] (by rw[Ő];exact J5 hn k);exact this
 unfold N8;rcases hm with rfl|⟨l,rfl,hl⟩
 .show(if(xs.map MV.str).all vB=true then R.ok _ _ else .no)=_;rw[iP b,a]
 .have e:srcOf Z #[l,1]=some ⟨true,xs.map MV.str,[(l,xs.map MV.str)]⟩:=by unfold srcOf;dsimp only;rw[hl]
  dsimp only;rw[e];show(if(xs.map MV.str).all vB=true then R.ok _ _ else .no)=_;rw[iP b,a]
theorem UY(hn:xs.Nodup): ∀ P  Z ,SqM Z m #[xs,8]->n<=↑17-> ∃out T,yD ↑33 EQ pP [none,none,some m] [] ((kd P).map λj=>.tup [j.1,j.2]) Z=.ok out (Z++T)/\Fts (Z++T) n 1 out (P.map (dS xs))
 |[],Z,_,_=>(YS ([]) ([]) (by rw[aN];rfl) trivial)
 |k::P,Z,hm,hl=>by
  have q:pP [#[k,3],#[1,0],some m] Z=.ok #[[.loc ↑17,.int 1],6] (Z++[.dic (dS xs k)]):=by unfold pP;exists 7,zBD hm hn
  obtain⟨out,T,b,a⟩:=UY (n:=n) hn P (Z++[.dic _]) hm.app (by rw[lA];lia);refine⟨.tup [.loc ↑17,.int 1]::out,.dic (dS xs k)::T,?_,⟨_,rfl,hl,by simp⟩,by rw[aA]at a;exact a⟩;rw[aA]at b;exact CT rfl rfl q (wQ _) b
def rZ(xs:Ch)(Gs:List Ev):List Ev:=(RP xs Gs []).map (dS xs)
theorem zBE(e:B[lf]? =#[ws,2])(hm:SqM B m #[xs,8])(p:↑8<1000)(hn:xs.Nodup)(v:Fts B n0 1 ws Gs)(u: ∀G∈Gs,Has xs G)(y:Gs.length<10000):
  ∃out T,MU [.loc lf,m] B=#[out,B++T,2]/\Fts (B++T) ↑5 1 out (rZ xs Gs):=by
 have q:GY [#[lf],some m,none,none,none,none] B=#[CU lf m ↑5 none none none,B++[.dic (kd [])],0]:=by unfold GY;exists 7,BR
 refine(Bb e hm p ws Gs [] none none none v u (by simp only[ø];lia)).g λa b c h=>?_;have k:GZ (CU lf m ↑5 none none none) (B++[.dic (kd [])])=#[CU lf m ↑5 a b c,B++[.dic (kd (RP xs Gs []))],0]:=by unfold GZ;exists 7,xX (by rw[â (gS.mp e).1];exact e),h
 obtain⟨P,i⟩: ∃P,P=RP xs Gs []:=⟨_,rfl⟩
 rw[<-i]at k
 have w:P.length<=Gs.length:=by
  rw[i]
  have: ∀(Gs:List Ev)(P:List _),(RP xs Gs P).length<=P.length+Gs.length:=λGs=>by
   induction Gs with
   |nil=>intro P;exact à _
   |cons G Gs ih=>
    intro P;have z:=ih (UW P (yR xs G));have A:=HE P (yR xs G);show(RP xs Gs _).length<=_;rw[lC]
    lia
  have:=this Gs [];rw[ø]at this
  lia
 have d:Dy #[↑5,1] (B++[.dic (kd P)])=.ok ⟨(kd P).map λo=>.tup [o.1,o.2],[]⟩ (B++[.fdc (kd P)]):=by unfold Dy;rw[Kq (zL B _)];dsimp only;rw[wL]
 refine(UY (n:=↑5) hn P (B++[.fdc (kd P)]) hm.app (by simp)).d λout T s j=>?_;refine YS out _ ?_ (by rw[rZ, <-i];rw[aA]at j;exact j);have r:HA (CU lf m ↑5 a b c) (B++[.dic (kd P)])=.ok (.ret (.new out)) (B++.fdc (kd P)::T):=by unfold HA;simp? [d,lM,show(kd P).length<1000000 by unfold kd;rw[lM];lia];rw[show vH 2 [1] _=[none,none,some m]from rfl,s];simp? [];rw[aA];rfl
 show zT (Ao [some _,some m,none,none,none,none] B)=_;unfold Ao;rw[zD q,zD k,r];rfl
def J6(h:S[l]? =#[E,7])(c:pT E)(h':S[m]? =#[F,7])(b:pT F)(a:l≠m)(hz:E.length+F.length<1000000):IT #[l,1] [#[m,1]] S=#[.non,S.set l (.dic (kL E F)),1]:=by unfold IT;dsimp only;rw[vS h c,vS h' b];dsimp only;rw[iP ⟨a,hz⟩]
abbrev OD:=MV×Ev
open Classical in
def Bc(xs:Ch)(a:List OD)(k:X0):List OD:=a.filter λD=>decide (yR xs D.2=k)
def pU(xs)(Ds)(D)(k):Bc xs (Ds++[D]) k=if yR xs D.2=k then Bc xs Ds k++[D]else Bc xs Ds k:=by
 unfold Bc;rw[List.filter_append,List.filter_cons];by_cases e:yR xs D.2=k
 .rw[iP (dT0 e),iP e];rfl
 .rw[iN (by simpa using e),iN e,List.filter_nil,aN]
structure JI(B:Sto)(xs:Ch)(Ds:List OD)(bd:Ev)(Z:Sto):Prop where
 ex: ∃T,Z=B++.dic bd::T
 at': ∀k d,look bd (.tup k)=some d-> ∃l,d=.loc l/\↑5<l/\Z[l]? =#[(Bc xs Ds k).map (·.1),2]
 no: ∀k,look bd (.tup k)=none->Bc xs Ds k=[]
 inj: ∀k k' l,look bd (.tup k)=#[l]->look bd (.tup k')=#[l]->k=k'
 tk:bd.all (λp=>sR p.1)=true
 ln:bd.length<=Ds.length
section
def JI.dic(J:JI B xs Ds bd Z):jW Z #[↑5,1]=some (↑5,bd):=by obtain⟨T,rfl⟩:=J.ex;unfold jW;dsimp only;rw[lW];dsimp only;rw[iP J.tk]
def JI.old(J:JI B xs Ds bd Z){l:Nat}(h:B[l]? =some o):Z[l]? =some o:=by obtain⟨T,rfl⟩:=J.ex;rw[â (gS.mp h).1];exact h
theorem JI.put(J:JI B xs Ds bd Z)(D)(W: ∀d∈yR xs D.2,VS d)(hl:Ds.length<10000):
  ∃O U l N ds,N3 #[↑5,1] [#[yR xs D.2,6],.new []] Z=.ok #[l,1] N/\N[l]? =#[ds,2]/\↑12<=Ds.length/\N.set l (.lst (ds++[D.1]))=U/\JI B xs (Ds++[D]) O U:=by
 rw[31];obtain⟨k,b⟩: ∃k,k=yR xs D.2:=⟨_,rfl⟩
 have C:keyOk (.tup k)=true:=by rw[b];exact JN W
 have J0:=J;obtain⟨T,hT⟩:=J.ex;have Q:kE (.new []) Z=.ok (.loc ↑17) (Z++[.lst []]):=rfl;have M:jW (Z++[.lst []]) #[↑5,1]=some (↑5,bd):=by unfold jW;dsimp only;rw[hT,aA,ĩ,lW];dsimp only;rw[iP J.tk]
 have Y:=J.ln;have c:N3 #[B.length,1] [#[k,6],.new []] Z=match look bd (.tup k)with |some d=>#[d,Z++[.lst []],1]|none=>.ok #[Z.length,1] ((Z++[MO.lst []]).set B.length (.dic (putK bd (.tup k) (.loc Z.length)))):=by unfold N3;dsimp only;rw[Q,bB];unfold zAC;rw[M];dsimp only;refine(iP ⟨C,by lia⟩).trans ?_;cases look bd (.tup k)<;>rfl
 have m: ∀{j:Nat}{o:MO},Z[j]? =some o->j<Z.length:=λh=>(gS.mp h).1;have w: ∀j,(Bc xs Ds j).length<=Ds.length:=λj=>Ď _ _;refine bw ?_;rw[<-b]
 cases z:look bd (.tup k)with
 |some d=>
  rw[z]at c;refine(J.at' k d z).b λl g S F=>?_;subst g;have H:=m F;refine⟨bd,_,l,_,_,c,by rw[â H];exact F,by rw[lM];exact w k,rfl,?_,λj d a=>?_,λj a=>?_,J.inj,J.tk,by rw[lA];lia⟩
  .refine⟨(T++[MO.lst []]).set (l - ↑5 - 1) (.lst ((Bc xs Ds k).map (·.1)++[D.1])),?_⟩;rw[hT,aA,Ī _ _ #[],ĩ,show l - ↑5=(l - ↑5 - 1)+1 by lia,set_cons_succ];rfl
  .refine(J.at' j d a).b λu V y v=>?_;subst V;refine⟨u,rfl,y,?_⟩;by_cases e:j=k
   .subst e;rw[z]at a;cases a;rw[get_set (by rw[â H];exact F),pU,iP b.symm,ñ];rfl
   .have P:l≠u:=λq=>e (J.inj j k u a (q▸z));rw[AR P,â (m v),v,pU,iN (λq=>e (q.symm.trans b.symm))]
  .rw[pU,iN (λq=>by rw[<-b]at q;rw[<-q,z]at a;cases a)];exact J.no j a
 |none=>
  rw[z]at c;dsimp only at c;have E:putK bd (.tup k) (.loc ↑17)=bd++[(.tup k,.loc ↑17)]:=tX z;have K:↑5<Z.length:=by rw[hT];simp
  have G: ∀q,(Z++[MO.lst []]).set ↑5 q=B++q::(T++[MO.lst []]):=λq=>by rw[hT,aA,ĩ,Ī _ _ (à _),sub_self];rfl
  rw[E,G]at c;have s:↑17=↑5+(↑37+1):=by rw[hT,lA,lC]
  have A:(B++MO.dic (bd++[(.tup k,.loc ↑17)])::(T++[.lst []]))[↑17]? =#[[],2]:=by rw[s,æ #[],show ↑5+(↑37+1) - ↑5=↑37+1 by lia,Ĝ,zL]
  have p:(B++MO.dic (bd++[(.tup k,.loc ↑17)])::(T++[.lst []])).set ↑17 (.lst ([]++[D.1]))=B++.dic (bd++[(.tup k,.loc ↑17)])::(T++[.lst [D.1]]):=by rw[s,Ī _ _ #[],show ↑5+(↑37+1) - ↑5=↑37+1 by lia,set_cons_succ,wL];rfl
  have n: ∀j,look (bd++[(MV.tup k,MV.loc ↑17)]) (.tup j)=(look bd (.tup j)).or (if k=j then #[↑17]else none):=λj=>by
   rw[fX];congr 1;by_cases e:k=j
   .rw[iP e,iP (by rw[e])]
   .rw[iN e,iN λq=>e (MV.tup.inj q)]
  have r: ∀{j:Nat}{o:MO},Z[j]? =some o->↑5<j->(B++MO.dic (bd++[(.tup k,.loc ↑17)])::(T++[.lst [D.1]]))[j]? =some o:=λ{j o} h a=>by have:=m h;rw[hT,æ #[],show j - ↑5=(j - ↑5 - 1)+1 by lia,Ĝ]at h;rw[æ #[],show j - ↑5=(j - ↑5 - 1)+1 by lia,Ĝ,â (gS.mp h).1];exact h
  refine⟨_,_,↑17,_,[],c,A,zero_le _,p,⟨_,rfl⟩,λj d a=>?_,λj a=>?_,λj X l S F=>?_,by rw[List.all_append,J.tk];rfl,by rw[lA,lA];simp;lia⟩
  .rw[n]at a
   cases I:look bd (.tup j)with
   |some d'=>
    rw[I]at a;cases a;refine(J.at' j _ I).b λu bu y v=>?_;subst bu;have L: ¬k=j:=λq=>by rw[q,I]at z;cases z
    refine⟨u,rfl,y,?_⟩;rw[r v y,pU,iN (by rw[<-b];exact L)]
   |none=>
    rw[I,Option.none_or]at a;by_cases e:k=j
    .rw[iP e]at a;cases a;refine⟨_,rfl,K,?_⟩;rw[pU,iP (by rw[<-b];exact e),J.no j I,s,æ #[],show ↑5+(↑37+1) - ↑5=↑37+1 by lia,Ĝ,zL];rfl
    .rw[iN e]at a;cases a
  .rw[n]at a;rw[pU, <-b,iN (λe=>by grind)];exact J.no j (by grind)
  .rw[n]at S F;have lt: ∀{i:X0},look bd (.tup i)=#[l]->l<Z.length:=λh=>by refine(J.at' _ _ h).b λu e y v=>?_;cases e;exact m v
   have:=J.inj j X l;have:=@lt j;have:=@lt X;clear lt m J J0 W C A p r c G n w
   grind
end
theorem Fts.move{mk:Int}(k: ∀(e:Nat) G ,Z[e]? =some (MO.dic G)->Z'[e]? =some (MO.dic G)): ∀{ws}{j},Fts Z n mk ws j->Fts Z' n mk ws j
 |[],[],_=>trivial
 |w::ws,G::j,h=>⟨let ⟨e,a,b,c⟩:=h.1;(ZB e a b (k e G c)),Fts.move k h.2⟩
 |[],_::_,h=>h.elim
 |_::_,[],h=>h.elim
theorem Fts.snoc{mk:Int}(a:n<=e)(b:Z[e]? =#[G,7]): ∀{ws}{j},Fts Z n mk ws j->Fts Z n mk (ws++[.tup [.loc e,.int mk]]) (j++[G])
 |[],[],_=>⟨(ZB e rfl a b),trivial⟩
 |w::ws,G::j,h=>⟨h.1,Fts.snoc a b h.2⟩
 |[],_::_,h=>h.elim
 |_::_,[],h=>h.elim
noncomputable abbrev QY(e d:Nat)(m:MV)(n:Nat)(a b:Y0)(t v k c:Y0):Rho:=[#[e],#[d],some m,#[n],a,b,t,v,k,c]
section
theorem Kr(p:B[lo']? =#[all,2])(hm:SqM B m #[xs,8])(o:↑8<1000): ∀ ws  q  z  G  Z  a b ,Fts B n0 1 ws q->(∀M∈q,Has xs M)->JI B xs z G Z->z.length+q.length<10000->
  ∃j u L O,JI B xs (z++ws.zip q) j u/\yZ ↑56 iM [(lo',all)] ws (QY lf lo' m ↑5 a b none none none none) Z=#[QY lf lo' m ↑5 L O none none none none,u,0]
 |[],[],z,G,Z,a,b,_,_,J,_=>(YQ G Z a b ⟨by rw[zip_nil_left,aN];exact J,rfl⟩)
 |w::ws,M::q,z,G,Z,a,b,I,hM,J,hl=>by
  rw[20];rw[lC]at hl;obtain⟨⟨e,rfl,_,N⟩,I⟩:=I;have i:=hM M mF0
  have k:SqM Z m #[xs,8]:=by
   rcases hm with h|⟨l,h,h'⟩
   .exact .inl h
   .exact .inr ⟨l,h,J.old h'⟩
  refine(J.put (.tup [.loc e,.int 1],M) i.vs #[]).q λj u l Q P p1 p2 H C s=>?_;have d:sW #[↑5,1] Z=true:=by unfold sW;rw[J.dic];rfl
  have c:zE 2 yI [.val _,.val m] Z=.ok #[yR xs M,6] Z:=(Ax (J.old N) i.1 k i.2 o)
  have E:iM (QY lf lo' m ↑5 #[e] #[1,0] none none none none) Z=#[QY lf lo' m ↑5 #[e] #[1,0] none none none none,u,0]:=by unfold iM qQ;simp? [d,c,p1,yX p2,tup2,xO p2 #[]];rw[C]
  obtain⟨n,D,F,v,r,A⟩:=Kr p hm o ws q _ j u _ _ I (λK y=>hM K (mO _ y)) s (by rw[lA,lS];lia);refine g ?_;refine YQ n D F v ⟨by rw[aA]at r;exact r,?_⟩;rw[zW rfl E (yN (s.old p))];exact A
 |[],_::_,_,_,_,_,_,h,_,_,_=>h.elim
 |_::_,[],_,_,_,_,_,h,_,_,_=>h.elim
end
section
theorem Ue(hG:Z1[eG]? =#[G,7])(k:pT G)(M:G.length<=1000)(d: ∀Y,FL #[mg,5] #[1,5] Y=.ok #[1,5] Y)(s: ∀q∈gs,Z1[q.1]? =#[q.2,2]): ∀(z:List OD) ws  Es  T  a b c ,(∀D∈z, ∃e,D.1=.tup [.loc e,.int 1]/\Z1[e]? =#[D.2,7]/\pT D.2/\D.2.length<=1000)->Fts (Z1++.lst ws::T) Z1.length 1 ws Es->ws.length+z.length<100000->
  ∃u B L b' I,Fts (Z1++.lst u::B) Z1.length 1 u (Es++z.map λD=>kL G D.2)/\u.length=ws.length+z.length/\yZ ↑56 iO gs (z.map (·.1)) (QY lf lo' m nb a b #[Z1.length] #[eG] #[mg,0] c) (Z1++.lst ws::T)=#[QY lf lo' m nb L b' #[Z1.length] #[eG] #[mg,0] I,(Z1++.lst u::B),0]
 |[],ws,Es,T,a,b,c,_,hF,_=>(WX ws T a b c ⟨by rw[ň,aN];exact hF,rfl,rfl⟩)
 |D::z,ws,Es,T,a,b,c,hD,hF,hl=>by
  refine V0 λV=>?_;rw[lC]at hl;refine(hD D mF0).elim λe g=>g.h λhe hM Q hMl=>?_;obtain⟨Z,y⟩: ∃Z,Z=Z1++MO.lst ws::T:=⟨_,rfl⟩
  have H: ∀{U:Sto}{l:Nat}{o:MO},Z1[l]? =some o->(Z1++U)[l]? =some o:=λh=>by rw[â (gS.mp h).1];exact h
  obtain⟨N,hN⟩: ∃N,N=Z.length:=⟨_,rfl⟩
  have r:N=Z1.length+(↑37+1):=by rw[hN,y,lA,lC]
  have P:Z++[MO.dic G]=Z1++.lst ws::(T++[.dic G]):=by rw[y,aA];rfl
  have p: ∀(vs:X0)(E:Ev),(Z1++MO.lst vs::(T++[.dic E]))[N]? =#[E,7]:=λvs E=>by rw[r,æ #[],show Z1.length+(↑37+1) - Z1.length=↑37+1 by lia,Ĝ,zL]
  have J: ∀(vs:X0)(E S:Ev),(Z1++MO.lst vs::(T++[.dic E])).set N (.dic S)=Z1++MO.lst vs::(T++[.dic S]):=λvs E S=>by rw[r,Ī _ _ #[],show Z1.length+(↑37+1) - Z1.length=↑37+1 by lia,set_cons_succ,wL]
  have v:TV [#[eG,1]] Z=.ok #[N,1] (Z1++.lst ws::(T++[.dic G])):=by rw[Ko (by rw[y];exact H hG) k,P,hN]
  have O:IT #[N,1] [#[e,1]] (Z1++.lst ws::(T++[.dic G]))=#[.non,(Z1++.lst ws::(T++[.dic (kL G D.2)])),1]:=by rw[J6 (p ws G) k (H hM) Q (by have:=(gS.mp hM).1;lia) #[],J]
  have C:KW #[N,1] (Z1++.lst ws::(T++[.dic G]))=true:=CZ (p ws G) k;have w: ∀(vs:X0)(U:Sto),(Z1++MO.lst vs::U)[Z1.length]? =#[vs,2]:=λvs U=>lW _ _ _;have W:oF #[Z1.length,1] [#[[.loc N,.int 1],6]] (Z1++.lst ws::(T++[.dic (kL G D.2)]))=#[.non,(Z1++.lst (ws++[.tup [.loc N,.int 1]])::(T++[.dic (kL G D.2)])),1]:=by rw[xO (w _ _) (show ws.length<1000000 by lia),QQ]
  have hb:iO (QY lf lo' m nb #[e] #[1,0] #[Z1.length] #[eG] #[mg,0] c) Z=#[QY lf lo' m nb #[e] #[1,0] #[Z1.length] #[eG] #[mg,0] #[N],(Z1++.lst (ws++[.tup [.loc N,.int 1]])::(T++[.dic (kL G D.2)])),0]:=by unfold iO qS;unfold iJ;rw[show bJ (dJ FL (vJ 8) (vJ 5)) pE _ Z=.ok true Z by simp? [d];rfl,bB,iP rfl];rw[zD (F:=CJ _ 9) (S':=Z1++.lst ws::(T++[.dic G])) (by exists 7,v)];rw[zD (F:=BJ _) (S':=Z1++.lst ws::(T++[.dic (kL G D.2)])) (by exists 7,C,O)];exists 7,yX (w ws (T++[.dic (kL G D.2)])),d,W
  have K:Fts (Z1++.lst (ws++[.tup [.loc N,.int 1]])::(T++[.dic (kL G D.2)])) Z1.length 1 (ws++[.tup [.loc N,.int 1]]) (Es++[kL G D.2]):=by
   refine Fts.snoc #[] (p _ _) (hF.move λj E n=>?_);by_cases e1:j<Z1.length
   .rw[â e1]at n ⊢; exact n
   .rw[æ #[]]at n ⊢
    cases q:j - Z1.length with
    |zero=>rw[q]at n;cases n
    |succ i=>
     rw[q,Ĝ]at n;rw[Ĝ,â (gS.mp n).1];exact n
  obtain⟨u,B,L,b',I,X,g2,g3⟩:=Ue hG k M d s z (ws++[.tup [.loc N,.int 1]]) (Es++[kL G D.2]) (T++[.dic (kL G D.2)]) #[e] #[1,0] #[N] (λq A=>hD q (mO _ A)) K (by rw[lA,lS];lia);refine V ?_;refine WX u B L b' I ⟨by rw[aA]at X;exact X,by rw[g2,lA,lS,lC];lia,?_⟩;rw[å,he, <-y,zW rfl hb (λq A=>H (s q A))];exact g3
end
def joinM(xs:Ch)(Gs:List Ev)(a:List OD):List Ev:=Gs.flatMap λG=>(Bc xs a (yR xs G)).map λD=>kL G D.2
section
theorem Kt(J:JI B xs Ds bd Z1)(y: ∀D∈Ds, ∃e,D.1=.tup [.loc e,.int 1]/\B[e]? =#[D.2,7]/\pT D.2/\D.2.length<=1000)(M:Ds.length<=1000)(E:B[lf]? =#[all,2])(hm:SqM B m #[xs,8])(U:↑8<1000)(i: ∀Y,FL #[mg,5] #[1,5] Y=.ok #[1,5] Y):
  ∀ ws  Gs ,Fts B n0 mg ws Gs->(∀G∈Gs,Has xs G/\G.length<=1000)-> ∀ ts  u  T  a b v k c ,Fts (Z1++.lst ts::T) Z1.length 1 ts u->ts.length+Ds.length * Gs.length<50000->
  ∃j T' a' b' v' k' c',Fts (Z1++.lst j::T') Z1.length 1 j (u++joinM xs Gs Ds)/\yZ (iB 2 (zB (zV 7) (zB (zV 8) zY))) iQ [(lf,all)] ws (QY lf lo' m ↑5 a b #[Z1.length] v k c) (Z1++.lst ts::T)=#[QY lf lo' m ↑5 a' b' #[Z1.length] v' k' c',(Z1++.lst j::T'),0]
 |[],[],_,_,ts,u,T,a,b,v,k,c,hF,_=>(WI ts T a b v k c ⟨by show Fts _ _ _ _ (u++[]);rw[aN];exact hF,rfl⟩)
 |w::ws,G::Gs,I,hG,ts,u,T,a,b,v,k,c,hF,hl=>by
  refine V0 λV=>?_;rw[lC,Nat.mul_succ]at hl;obtain⟨⟨e,rfl,_,he⟩,I⟩:=I;obtain⟨C,H⟩:=hG G mF0;obtain⟨Z,S⟩: ∃Z,Z=Z1++MO.lst ts::T:=⟨_,rfl⟩
  have A: ∀{l:Nat}{o:MO},Z1[l]? =some o->Z[l]? =some o:=λh=>by rw[S,â (gS.mp h).1];exact h
  have Q:SqM Z m #[xs,8]:=by
   rcases hm with h|⟨l,h,h'⟩
   .exact .inl h
   .exact .inr ⟨l,h,A (J.old h')⟩
  have O:zE 2 yI [.val _,.val m] Z=.ok #[yR xs G,6] Z:=Ax (A (J.old he)) C.1 Q C.2 U;have s:Z[↑5]? =#[bd,7]:=by refine A ?_;obtain⟨T0,h0⟩:=J.ex;rw[h0];exact lW _ _ _
  have n:jW Z #[↑5,1]=some (↑5,bd):=by unfold jW;dsimp only;rw[s];dsimp only;rw[iP J.tk]
  have P:sW #[↑5,1] Z=true:=by unfold sW;rw[n];rfl
  have L: ∃r F,CF #[↑5,1] [#[yR xs G,6],.new []] Z=.ok r Z/\GH r Z=.ok ⟨(Bc xs Ds (yR xs G)).map (·.1),F⟩ Z/\ ∀q∈F,Z1[q.1]? =#[q.2,2]:=by
   unfold CF;dsimp only;rw[n];dsimp only;rw[iP (JN C.vs)]
   cases z:look bd _ with
   |none=>
    refine Z0 _ ([]) rfl ?_ (by simp);rw[J.no _ z];rfl
   |some d=>
    refine(J.at' _ _ z).b λl g h1 h2=>?_;subst g;exact Z0 _ _ rfl (xX (A h2)) (λq hq=>by rw[mS.mp hq];exact h2)
  refine L.c λr F d1 d2 d3=>?_;have aa:(Bc xs Ds (yR xs G)).length<=Ds.length:=Ď _ _;obtain⟨p,X,a1,W,c1,g1,g2,g3⟩:=Ue (J.old he) C.1 H i d3 (Bc xs Ds (yR xs G)) ts u T a b c (λD hD=>by refine(y D (Ę.mp hD).1).b λe' x1 x2 x3=>?_;exact ZB e' x1 (J.old x2) x3) hF #[];have hb:iQ (QY lf lo' m ↑5 a b #[Z1.length] #[e] #[mg,0] c) Z=#[QY lf lo' m ↑5 a1 W #[Z1.length] #[e] #[mg,0] c1,(Z1++.lst p::X),0]:=by unfold iQ qT;simp? [P,O,d1,d2];rw[S];exact g3
  obtain⟨N,T2,a2,b2,v2,k2,c2,f1,f2⟩:=Kt J y M E hm U i ws Gs I (λK hK=>hG K (mO _ hK)) p _ X a1 W _ _ c1 g1 #[];refine V ?_;refine WI N T2 a2 b2 v2 k2 c2 ⟨by rw[aA]at f1;exact f1,?_⟩;rw[<-S,zW rfl hb (yN (by rw[â (gS.mp (J.old E)).1];exact J.old E))];exact f2
 |[],_::_,h,_,_,_,_,_,_,_,_,_,_,_=>h.elim
 |_::_,[],h,_,_,_,_,_,_,_,_,_,_,_=>h.elim
end
theorem QZ{mk:Int}: ∀{ws}{j},Fts B n mk ws j-> ∀D∈ws.zip j,D.2∈j/\ ∃e,D.1=.tup [.loc e,.int mk]/\B[e]? =#[D.2,7]
 |[],[],_=>λD h=>by simp at h
 |w::ws,M::j,h=>λD m=>by
  rcases mC.mp m with rfl|m
  .refine h.1.b λe a _ c=>?_;exact⟨mF0,e,a,c⟩
  .obtain⟨x,y⟩:=QZ h.2 D m;exact⟨mO _ x,y⟩
 |[],_::_,h=>h.elim
 |_::_,[],h=>h.elim
theorem jn_f{i:X0}(j:B[lf]? =#[fs,2])(u:B[lo']? =#[i,2])(hm:SqM B m #[xs,8])(r:↑8<1000)(K:Fts B n0 mg fs Gs)(w:Fts B n1 1 i Ms)(X: ∀G∈Gs,Has xs G/\G.length<=1000)(o: ∀M∈Ms,Has xs M/\M.length<=1000)(C:Ms.length<=1000)(p:Ms.length * Gs.length<50000)
  (hband: ∀Y,FL #[mg,5] #[1,5] Y=.ok #[1,5] Y):
  ∃l T ts,tM [.loc lf,.loc lo',m] B=.ok #[l,1] (B++T)/\↑5<l/\(B++T)[l]? =#[ts,2]/\Fts (B++T) l 1 ts (joinM xs Gs (i.zip Ms)):=by
 rw[20];have Q:AQ [#[lf],#[lo'],some m,none,none,none,none,none,none,none] B=#[QY lf lo' m ↑5 none none none none none none,B++[.dic []],0]:=by exists 7,BR
 have A:JI B xs [] [] _:=⟨⟨[],rfl⟩,(λk d h=>by cases h),(λk _=>rfl),(λk v l h=>by cases h),rfl,à _⟩
 obtain⟨N,c,a,b,J,e⟩:=Kr u hm r i Ms [] [] _ none none w (λM h=>(o M h).1) A (by simp only[ø];omega);rw[Ő]at J;have E:qU (QY lf lo' m ↑5 none none none none none none) (B++[.dic []])=#[QY lf lo' m ↑5 a b none none none none,c,0]:=by unfold qU;exists 7,xX (A.old u),e
 have S:qV (QY lf lo' m ↑5 a b none none none none) c=#[QY lf lo' m ↑5 a b #[c.length] none none none,(c++.lst []::[]),0]:=by unfold qV;exists 7,rfl
 have n:(i.zip Ms).length<=Ms.length:=by rw[Ŀ];omega
 obtain⟨ts,T,L,W,I,v,Z,F,U⟩:=Kt J (λD H=>by obtain⟨x,e,y,z⟩:=QZ w D H;exact⟨e,y,z,(o _ x).1.1,(o _ x).2⟩) #[] j hm r hband fs Gs K X [] [] [] a b none none none trivial (by rw[ø,Ă];exact ł (Nat.mul_le_mul_right _ n) p);have O:qW (QY lf lo' m ↑5 a b #[c.length] none none none) (c++.lst []::[])=#[QY lf lo' m ↑5 L W #[c.length] I v Z,(c++.lst ts::T),0]:=by unfold qW;exists 7,xX (by rw[â (gS.mp (J.old j)).1];exact J.old j),U
 obtain⟨P,s⟩:=J.ex;have q:c++MO.lst ts::T=B++(.dic N::P++.lst ts::T):=by rw[s,aA]
 refine g ?_;refine YR c.length _ ts ⟨?_,by rw[s];simp,by rw[<-q];exact lW _ _ _,by rw[<-q];exact F⟩;show zT (CL [some _,some _,some m,none,none,none,none,none,none,none] B)=_;unfold CL;rw[zD Q,zD E,zD S,zD O, <-q];rfl
def Ku(σ:List Nat->MV)(t:MV):MV:=match vn t with |some x=>σ x|none=>isv t
def RA(σ)(x):Ku σ (.tup [.str KD,.str x])=σ x:=by unfold Ku;rw[EW]
theorem Kv(σ)(v):Ku σ (.tup [.str IS,v])=v:=by unfold Ku;rw[MY];rfl
theorem pV: ∀ ts cs  F G ,xT ts cs F=some G->ts.length=cs.length->(∀t∈ts,xK t)->(∀x d,look F (.str x)=some d->look G (.str x)=some d)/\cs=ts.map (Ku (vD G))
 |[],[],F,G,h,_,_=>by cases h;exact⟨λ_ _ z=>z,rfl⟩
 |[],_::_,_,_,_,hl,_=>by simp at hl
 |_::_,[],_,_,_,hl,_=>by simp at hl
 |t::ts,c::cs,F,G,h,hl,hT=>by
  have j:=by simpa using hl
  have b:=λu k=>hT u (mO _ k);rcases hT t mF0 with⟨x,rfl⟩|⟨v,hv,rfl⟩
  .rw[rK]at h
   cases z:look F _ with
   |none=>
    rw[20];rw[z]at h;obtain⟨a,i⟩:=pV ts cs _ G h j b;refine g ?_;refine⟨λy d m=>a y d (by rw[fX,m];rfl),?_⟩;rw[å,RA,jR (a x c (by rw[fX,z,Option.none_or,iP rfl])), <-i]
   |some d=>
    rw[z]at h;dsimp only at h;split at h
    .rename_i e;subst e;obtain⟨a,i⟩:=pV ts cs F G h j b;exact⟨a,by rw[å,RA,jR (a x d z), <-i]⟩
    .cases h
  .rw[EY]at h;split at h
   .rename_i e;obtain⟨a,i⟩:=pV ts cs F G h j b;exact⟨a,by rw[å,Kv,e, <-i]⟩
   .cases h
theorem tY(σ): ∀ ts  F ,(∀x d,look F (.str x)=some d->d=σ x)->(∀t∈ts,xK t)-> ∃G,xT ts (ts.map (Ku σ)) F=some G/\ ∀x d,look G (.str x)=some d->d=σ x
 |[],F,hF,_=>(Z3 F rfl hF)
 |t::ts,F,hF,hT=>by
  have j:=λu c=>hT u (mO _ c);rcases hT t mF0 with⟨x,rfl⟩|⟨v,hv,rfl⟩
  .rw[å,RA,rK]
   cases z:look F _ with
   |none=>
    refine tY σ ts _ (λy d a=>?_) j;rw[fX]at a
    cases b:look F _ with
    |some d'=>rw[b]at a;cases a;exact hF y _ b
    |none=>
     rw[b]at a;split at a
     .rename_i e;cases a;cases e;rfl
     .cases a
   |some d=>
    dsimp only;rw[iP (hF x d z)];exact tY σ ts F hF j
  .rw[å,Kv,EY,iP rfl];exact tY σ ts F hF j
def Mt(rows:List Rw)(a:Rw)(σ:List Nat->MV):Prop:=(a.1,a.2.map (Ku σ))∈rows
theorem Kw(i: ∀t∈a.2,xK t)(hw:↑74)(h:G∈cO rows a):Mt rows a (vD G)/\(∀t∈a.2, ∀x,vn t=some x->look G (.str x)≠none):=by rw[20];refine(mem_filterMap.mp h).a λr c d=>?_;obtain⟨c,b⟩:=Ę.mp c;have b:=ė b;have e:=hw r c b;obtain⟨_,j⟩:=pV _ _ _ _ d e i;refine g ?_;refine⟨?_,(QV _ _ _ _ d #[]).2⟩;unfold Mt;rw[<-j, <-b];exact c
theorem Em(x)(xs)(d)(k):dS (x::xs) (d::k)=(.str x,d)::dS xs k:=rfl
theorem DB(f): ∀ xs  x ,look (dS xs (xs.map f)) (.str x)=if x∈xs then some (f x)else none
 |[],x=>rfl
 |y::xs,x=>by
  rw[å,Em,look_cons,DB f xs x];by_cases e:y=x
  .subst e;rw[iP rfl,iP mF0]
  .rw[iN (λz=>e (MV.str.inj z))];by_cases h:x∈xs
   .rw[iP h,iP (mO _ h)]
   .rw[iN h,iN λz=>(mC.mp z).elim (λz=>e z.symm) h]
def HF(h:x∈xs):vD (dS xs (yR xs G)) x=vD G x:=jR (by unfold yR;rw[DB,iP h])
def RB(h:Has xs G):pT (dS xs (yR xs G))/\ ∀x,look (dS xs (yR xs G)) (.str x)≠none↔x∈xs:=by
 refine⟨λp d=>?_,λx=>?_⟩
 .have a:_∈(xs.map MV.str).zip _:=d;obtain⟨b,c⟩:=of_mem_zip a;obtain⟨x,_,e⟩:=mM.mp b;exact⟨⟨x,e.symm⟩,h.vs _ c⟩
 .unfold yR;rw[DB];by_cases e:x∈xs
  .rw[iP e];exact⟨λ_=>e,λ_ z=>by cases z⟩
  .rw[iN e];exact⟨λz=>absurd rfl z,λz=>absurd z e⟩
theorem uX(xs): ∀ Gs  P  k ,k∈RP xs Gs P↔k∈P\/ ∃G∈Gs,k=yR xs G
 |[],P,k=>⟨.inl,λh=>h.elim id λ⟨G,h,_⟩=>by simp at h⟩
 |G::Gs,P,k=>by
  show k∈RP xs Gs _↔_;rw[uX xs Gs,Az];constructor
  .rintro((h|h)|⟨K,j,h⟩)
   .exact .inl h
   .exact .inr ⟨G,mF0,h⟩
   .exact .inr ⟨K,mO _ j,h⟩
  .rintro(h|⟨K,j,h⟩)
   .exact .inl (.inl h)
   .rcases mC.mp j with rfl|j
    .exact .inl (.inr h)
    .exact .inr ⟨K,j,h⟩
def oB:E∈rZ xs Gs↔ ∃G∈Gs,E=dS xs (yR xs G):=by
 unfold rZ;rw[mM];constructor
 .rintro⟨k,b,rfl⟩;rcases (uX xs Gs [] k).mp b with h|⟨G,a,rfl⟩
  .simp at h
  .exact⟨G,a,rfl⟩
 .rintro⟨G,a,rfl⟩;exact Z3 _ ((uX xs Gs [] _).mpr (.inr ⟨G,a,rfl⟩)) rfl
theorem UZ(E)(k d j):look (putK E k d) j=if k=j then some d else look E j:=by
 unfold putK;split
 .rename_i hs
  have q: ∀E:Ev, ¬k=j->look (E.map λp=>if p.1=k then(p.1,d)else p) j=look E j:=λE q=>by
   induction E with
   |nil=>rfl
   |cons p E ih=>rw[å,look_cons,look_cons];grind
  induction E with
  |nil=>cases hs
  |cons p E ih=>
   rw[å,look_cons,look_cons];rw[look_cons]at hs
   grind
 .rw[fX];cases z:look E j<;>grind
theorem NB: ∀ M G  x ,(∀p∈M, ∀d,look G p.1=some d->p.2=d)->(∀p∈M, ∀q∈M,p.1=q.1->p.2=q.2)->look (kL G M) (.str x)=(look G (.str x)).or (look M (.str x))
 |[],G,x,_,_=>by show look G _=_;cases look G _<;>rfl
 |p::M,G,x,h1,h2=>by
  show look (kL _ M) _=_;rw[NB M _ x (λq m d j=>?_) (λq m r u=>h2 q (mO _ m) r (mO _ u)),UZ,look_cons]
  .by_cases e:p.1=.str x
   .rw[iP e,iP e]
    cases z:look G _ with
    |none=>rfl
    |some d=>rw[h1 p mF0 d (by rw[e];exact z)];rfl
   .rw[iN e,iN e]
  .rw[UZ]at j;split at j
   .rename_i e;cases j;exact(h2 p mF0 q (mO _ m) e).symm
   .exact h1 q (mO _ m) d j
def VA:E∈joinM xs Gs Ds↔ ∃G∈Gs, ∃D∈Ds,yR xs D.2=yR xs G/\E=kL G D.2:=by
 unfold joinM;rw[List.mem_flatMap];constructor
 .rintro⟨G,b,h⟩;refine(mM.mp h).a λD a g=>?_;subst g;obtain⟨c,d⟩:=Ę.mp a;exact⟨G,b,D,c,ė d,rfl⟩
 .rintro⟨G,b,D,a,h,rfl⟩;exact⟨G,b,mM.mpr ⟨D,Ę.mpr ⟨a,dT0 h⟩,rfl⟩⟩
def Sm(h: ∀x,vn t=some x->σ x=τ x):Ku σ t=Ku τ t:=by
 unfold Ku
 cases z:vn t with
 |none=>rfl
 |some x=>exact h x z
def YE(h: ∀t∈a.2, ∀x,vn t=some x->σ x=τ x)(m:Mt rows a σ):Mt rows a τ:=by unfold Mt at *;rw[<-Ė λt b=>Sm (h t b)];exact m
def YF(h:p∈dS xs (xs.map f)): ∃x∈xs,p=(.str x,f x):=by
 induction xs with
 |nil=>exact absurd h (by simp[dS])
 |cons y xs ih=>
  rcases mC.mp h with rfl|h
  .exact⟨y,mF0,rfl⟩
  .refine(ih h).a λx a e=>?_;exact⟨x,mO _ a,e⟩
def Bd(h:pT E){p:MV×MV}(b:(∃x,p.1=.str x)/\VS p.2):pT (putK E p.1 p.2):=by
 unfold putK;split
 .intro q a;refine(mM.mp a).a λr c d=>?_;subst d;split
  .exact⟨(h r c).1,b.2⟩
  .exact h r c
 .intro q a;rcases ê.mp a with a|a
  .exact h q a
  .rw[mS.mp a];exact b
theorem VB: ∀ M G ,pT G->pT M->pT (kL G M)
 |[],G,h,_=>h
 |p::M,G,h,hM=>VB M _ (Bd h (hM p mF0)) λq j=>hM q (mO _ j)
structure FI(rows done:List Rw)(kn:Ch)(Gs:List Ev):Prop where
 dom: ∀G∈Gs,pT G/\ ∀x,look G (.str x)≠none↔x∈kn
 snd: ∀G∈Gs, ∃σ,(∀b∈done,Mt rows b σ)/\ ∀x∈kn,vD G x=σ x
 cmp: ∀σ,(∀b∈done,Mt rows b σ)-> ∃G∈Gs, ∀x∈kn,vD G x=σ x
section
variable{kn own:Ch}{ask:List Nat->Prop}
def Kz(m:pT G/\ ∀x,look G (.str x)≠none↔x∈kn)(u:Has own F)(c: ∀x,x∈sh↔x∈own/\x∈kn)(b: ∀x,x∈ow↔x∈own/\(x∈sh\/ask x))(v: ∀x,x∈kn'↔(x∈kn\/x∈own)/\ask x)(A:yR sh (dS ow (yR ow F))=yR sh G):
  (∀x∈sh,vD F x=vD G x)/\(∀x∈kn,vD (kL G (dS ow (yR ow F))) x=vD G x)/\(∀x∈ow,vD (kL G (dS ow (yR ow F))) x=vD F x)/\Has kn' (kL G (dS ow (yR ow F))):=by
 have hs:=λx a=>by
  have i:vD (dS ow (yR ow F)) x=vD G x:=by exact List.map_inj_left.mp A x a
  rw[HF ((b x).mpr ⟨((c x).mp a).1,.inl a⟩)]at i;exact i
 have j: ∀{E:Ev}{x:Db},look E _≠none->look E _=some (vD E x):=λ{E x} h=>by
  cases z:look E _ with
  |none=>exact absurd z h
  |some d=>rw[jR z]
 have k: ∀x,look (kL G (dS ow (yR ow F))) _=(look G _).or _:=λx=>by
  refine NB _ _ x (λp n d s=>?_) λp n q w e=>?_
  .refine(YF n).a λy r g=>?_;subst g;rw[hs y ((c y).mpr ⟨((b y).mp r).1,((m.2 y).mp (by rw[s];simp))⟩)];exact jR s
  .refine(YF n).a λy r p=>?_;subst p;refine(YF w).a λz D I=>?_;subst I;cases e;rfl
 have i: ∀x∈kn,look _ _=some _:=λx a=>by rw[k,j ((m.2 x).mpr a)];rfl
 have o: ∀x∈ow,look _ _=some (vD F x):=λx a=>by
  by_cases e:x∈kn
  .rw[i x e,hs x ((c x).mpr ⟨((b x).mp a).1,e⟩)]
  .have hn:look G (.str x)=none:=by
    cases z:look G _ with
    |none=>rfl
    |some d=>exact absurd ((m.2 x).mp (by rw[z];simp)) e
   rw[k,hn,Option.none_or];unfold yR;rw[DB,iP a]
 refine⟨hs,λx a=>jR (i x a),λx a=>jR (o x a),VB _ _ m.1 (RB (⟨u.1,λx a=>u.2 x ((b x).mp a).1⟩)).1,λx a=>?_⟩;obtain⟨C,B⟩:=(v x).mp a;by_cases e:x∈kn
 .rw[i x e];simp
 .rw[o x ((b x).mpr ⟨C.resolve_left e,.inr B⟩)];simp
def VC(k: ∀t∈a.2,xK t)(hw:↑74)(hv: ∀r∈rows, ∀c∈r.2,VS c)(b: ∀x,x∈own↔ ∃t∈a.2,vn t=some x)(d:F∈cO rows a):Mt rows a (vD F)/\Has own F:=by obtain⟨j,m⟩:=Kw k hw d;refine(mem_filterMap.mp d).a λr o q=>?_;exact⟨j,uW _ _ _ _ q (λp h=>by simp at h) (hv r (Ę.mp o).1),λx i=>by refine((b x).mp i).a λt n e=>?_;exact m t n x e⟩
def Sn(I:FI rows done kn Gs)(S: ∀t∈a.2,xK t)(hw:↑74)(hv: ∀r∈rows, ∀c∈r.2,VS c)(o: ∀x,x∈own↔ ∃t∈a.2,vn t=some x)(k: ∀x,x∈sh↔x∈own/\x∈kn)(n: ∀x,x∈ow↔x∈own/\(x∈sh\/ask x))(H: ∀x,x∈kn'↔(x∈kn\/x∈own)/\ask x)
  (hdn: ∀b∈done, ∀t∈b.2, ∀x,vn t=some x->x∈own->x∈kn) (hDs: ∀M,M∈rZ ow (cO rows a)↔ ∃D∈Ds,D.2=M):(∀K∈joinM sh Gs Ds,Has kn' K)/\FI rows (done++[a]) kn' (rZ kn' (joinM sh Gs Ds)):=by
 have h: ∀F∈cO rows a,Mt rows a _/\Has own F:=λF j=>VC S hw hv o j;have un: ∀K∈joinM sh Gs Ds, ∃G∈Gs, ∃F∈cO rows a,yR sh (dS ow (yR ow F))=yR sh G/\K=kL G (dS ow (yR ow F)):=λK u=>by refine V0 λbw=>?_;obtain⟨G,m,D,J,e,rfl⟩:=VA.mp u;refine(oB.mp ((hDs D.2).mpr ⟨D,J,rfl⟩)).a λF j v=>?_;refine bw ?_;exact⟨G,m,F,j,by rw[<-v];exact e,by rw[v]⟩
 have p: ∀{G F:Ev},G∈Gs->F∈cO rows a->yR sh _=yR sh G-> ∀{σ:List Nat->MV},(∀x∈kn,vD G x=σ x)->(∀x∈own,vD F x=σ x)-> ∀x∈kn',vD _ x=σ x:=λ{G F} m j e {σ} C g2 x i=>by
  refine(Kz (I.dom G m) (h F j).2 k n H e).h λO Z X _=>?_;rw[HF i];obtain⟨h3,h4⟩:=(H x).mp i;by_cases q:x∈kn
  .rw[Z x q,C x q]
  .have A:=h3.resolve_left q;rw[X x ((n x).mpr ⟨A,.inr h4⟩),g2 x A]
 have w: ∀K∈joinM sh Gs Ds,Has kn' K:=λK u=>by obtain⟨G,m,F,j,e,rfl⟩:=un K u;exact(Kz (I.dom G m) (h F j).2 k n H e).2.2.2
 refine⟨w,λE P=>?_,λE P=>?_,λσ y=>?_⟩
 .refine(oB.mp P).a λK u V=>?_;subst V;exact RB (w K u)
 .refine V0 λbx=>?_;refine(oB.mp P).a λK u g=>?_;subst g;obtain⟨G,m,F,j,e,rfl⟩:=un K u;refine(Kz (I.dom G m) (h F j).2 k n H e).h λO _ _ _=>?_;refine(I.snd G m).a λL s1 Q=>?_;refine bx ?_;refine Z3 (λx=>if x∈own then vD F x else L x) (λb s=>?_) (p m j e (λx i=>?_) λx i=>by rw[iP i])
  .rcases ê.mp s with s|s
   .refine YE (λt N x i=>?_) (s1 b s);by_cases q:x∈own
    .have B:=hdn b s t N x i q;rw[iP q,O x ((k x).mpr ⟨q,B⟩),Q x B]
    .rw[iN q]
   .rw[mS.mp s];exact YE (λt N x i=>by rw[iP ((o x).mpr ⟨t,N,i⟩)]) (h F j).1
  .by_cases q:x∈own
   .rw[iP q,O x ((k x).mpr ⟨q,i⟩)]
   .rw[iN q];exact Q x i
 .refine(I.cmp σ λb s=>y b (ă _ s)).a λG m C=>?_;refine((show ∃G∈cO rows a, ∀x d,look G (.str x)=some d->d=σ x by refine(tY σ a.2 [] (λx d z=>by cases z) S).a λG W Y=>?_;exact⟨G,mem_filterMap.mpr ⟨_,Ę.mpr ⟨(y a (õ _ mF0)),dT0 rfl⟩,W⟩,Y⟩)).a λF j f1=>?_
  have T: ∀x∈own,vD F x=σ x:=λx i=>by
   cases z:look F _ with
   |none=>exact absurd z ((h F j).2.2 x i)
   |some d=>rw[jR z];exact f1 x d z
  have e:yR sh (dS ow (yR ow F))=yR sh G:=by show sh.map _=sh.map _;refine Ė λx i=>?_;obtain⟨U,q2⟩:=(k x).mp i;rw[HF ((n x).mpr ⟨U,.inl i⟩),T x U,C x q2]
  refine((hDs _).mp (oB.mpr ⟨F,j,rfl⟩)).a λD J v=>?_;exact⟨_,oB.mpr ⟨_,VA.mpr ⟨G,m,D,J,by rw[v];exact e,rfl⟩,rfl⟩,by rw[v];exact p m j e C T⟩
end
noncomputable def rk:MV->MV
 |.str x=>.tup [.int 1,.int 0,.str x]
 |d=>.tup [.int 0,d,.str []]
noncomputable def cd:MV->List Int
 |.int i=>[0,i]
 |.str x=>1::x.map Int.ofNat
 |_=>[]
abbrev VY(t:X0):List (List Int):=t.map cd
theorem La: ∀(x y:Db),x.map Int.ofNat<y.map Int.ofNat↔x<y
 |_,[]=>by simp
 |[],_::_=>by simp
 |a::x,b::y=>by rw[å,å,ŉ,ŉ,La x y];simp;grind
def Lb(b:VS d)(a:VS e)(h:cd d=cd e):d=e:=by
 rcases b with⟨i,rfl⟩|⟨x,rfl⟩<;>rcases a with⟨j,rfl⟩|⟨y,rfl⟩<;>simp[cd]at h
 .rw[h]
 .rw[(List.map_inj_right (λ_ _ e=>Int.ofNat.inj e)).mp h]
theorem Be: ∀{a b},(∀d∈a,VS d)->(∀d∈b,VS d)->VY a=VY b->a=b
 |[],[],_,_,_=>rfl
 |[],_::_,_,_,h=>by cases h
 |_::_,[],_,_,h=>by cases h
 |d::a,e::b,ha,hb,h=>by
  injection h with h1 h2
  rw[Lb (ha d mF0) (hb e mF0) h1,Be (λx j=>ha x (mO _ j)) (λx j=>hb x (mO _ j)) h2]
def NC(h:VS d):pd (rk d)=true/\DR (rk d)<=1/\cN (rk d)=true:=by rcases h with⟨i,rfl⟩|⟨x,rfl⟩<;>simp[rk,pd,VX,DR,EV,cN,BW]
def zBF(b:VS d)(a:VS e)(n):GQ S (n+2) (rk d) (rk e)=some (decide (cd d<cd e)):=by
 rcases b with⟨i,rfl⟩|⟨x,rfl⟩<;>rcases a with⟨j,rfl⟩|⟨y,rfl⟩<;>simp[rk,cd,GQ,KM,OZ,GR,ŉ,La]
 .by_cases h:i=j<;>simp[h]
 .by_cases h:x=y<;>simp[h]
theorem Lc(n): ∀{a b},(∀d∈a,VS d)->(∀d∈b,VS d)->KM (eqv S (n+2)) (GQ S (n+2)) (a.map rk) (b.map rk)=some (decide (VY a<VY b))
 |[],[],_,_=>by simp[KM]
 |[],_::_,_,_=>by simp[KM]
 |_::_,[],_,_=>by simp[KM]
 |d::a,e::b,ha,hb=>by
  have m:=ha d mF0;have c:=hb e mF0;rw[å,å];unfold KM;rw[tS _ (NC m).1 (NC c).1 (by have:=(NC m).2.1;lia)];show _=_;rw[(Lc (S:=S) n (λx h=>ha x (mO _ h)) (λx h=>hb x (mO _ h))),zBF m c];show _=some _;by_cases q:d=e
  .subst q;simp[ŉ]
  .have: ¬cd d=cd e:=λz=>q (Lb m c z);simp[(show rk d=rk e↔d=e by rcases m with⟨i,rfl⟩|⟨x,rfl⟩<;>rcases c with⟨j,rfl⟩|⟨y,rfl⟩<;>simp[rk]),q,ŉ,this]
def klt(c: ∀d∈a,VS d)(e: ∀d∈b,VS d):GQ S zK (.tup (a.map rk)) (.tup (b.map rk))=some (decide (VY a<VY b)):=Lc 37 c e
def tZ(T:zA3):List (List MV):=T.mergeSort λa b=>decide (VY a<=VY b)
def fY(T):(tZ T).Perm T:=List.mergeSort_perm _ _
def RD(T):(tZ T).Pairwise λa b=>VY a<=VY b:=by have:=List.pairwise_mergeSort (le:=λa b:List MV=>decide (VY a<=VY b)) (λa b c d e=>dT0 (List.le_trans (ė d) (ė e))) (λa b=>by rw[Bool.or_eq_true,decide_eq_true_iff,decide_eq_true_iff];exact List.le_total _ _) T;exact this.imp λh=>ė h
def ND{R:zA3}(hv: ∀t∈T, ∀d∈t,VS d)(p:R.Perm T)(q:R.Pairwise λa b=>VY a<=VY b):R=tZ T:=
 List.Perm.eq_of_pairwise (λa b c e h i=>Be (hv a (p.mem_iff.mp c)) (hv b ((fY T).mem_iff.mp e)) (List.le_antisymm h i)) q (RD T) (p.trans (fY T).symm)
def JO{β:Type}(T:List β):(List.range ↑37).filterMap (T[·]?)=T:=by
 induction T with
 |nil=>rfl
 |cons t T ih=>rw[lC,List.range_succ_eq_map,ĳ];simp[Function.comp_def,ih]
theorem Bf(hv: ∀t∈T, ∀d∈t,VS d)(hw: ∀t∈T,t.length=w)(U:↑37<128)(W:jO S p=some (T.map .tup))(call: ∀t∈T,zE 1 Fd [#[t,6]] S=.ok (Ed l (.tup (t.map rk))) S):
  FM l Fd [p] S=#[(tZ T).map .tup,S,2]:=by
 have mem: ∀k∈T.map (λt=>MV.tup _), ∃t∈T,k=.tup (t.map rk):=λk G=>by refine(mM.mp G).a λt n r=>?_;exact⟨t,n,r.symm⟩
 have at': ∀{f:List MV->MV}{m:Nat}{k:MV},_[m]? =some k-> ∃t,T[m]? =some t/\t∈T/\k=f t:=λh=>by rw[ó]at h;refine(Option.map_eq_some_iff.mp h).a λt n r=>?_;exact ZB t n (è n) r.symm
 have ok:SrtOkX l Fd S (T.map .tup) (T.map λt=>.tup (t.map rk)) (decide (0<w)):=by
  refine⟨by rw[lM];exact U,by rw[lM,lM],λm d kd n r=>?_,λd K=>?_,λd K=>?_,⟨λa D b B=>?_,λa D b B c F n r=>?_,λa D b B n=>?_⟩⟩
  .refine(at' n).b λt z o v=>?_;subst v;refine(at' r).b λu J _ O=>?_;subst O;rw[z]at J;cases J;exact call t o
  .obtain⟨t,o,rfl⟩:=mem d K;have: ∀I:List MV,(∀d∈I,cN d=true)->BW I=true:=λI=>by induction I<;>simp_all [BW]
   exact this _ λx Q=>by refine(mM.mp Q).a λy X V=>?_;subst V;exact(NC (hv t o y X)).2.2
  .obtain⟨t,o,rfl⟩:=mem d K;unfold Md;split
   .exact⟨_,rfl⟩
   .have n:=hw t o
    cases t with
    |nil=>rw[<-n];exact .e
    |cons x t=>
     rw[dT0 (by rw[<-n,lC];lia),å];rcases hv _ o x mF0 with⟨i,rfl⟩|⟨y,rfl⟩
     .exact .t _ _
     .exact .t _ _
  .refine(mem a D).a λt o Y=>?_;subst Y;refine(mem b B).a λu A ac=>?_;subst ac;exact⟨_,klt (hv t o) (hv u A)⟩
  .refine(mem a D).a λt o ad=>?_;subst ad;refine(mem b B).a λu A ap=>?_;subst ap;refine(mem c F).a λv H be=>?_;subst be;rw[klt (hv _ A) (hv _ o)]at n;rw[klt (hv _ H) (hv _ A)]at r;rw[klt (hv _ H) (hv _ o)];have n:=of_decide_eq_false (ä n);have r:=of_decide_eq_false (ä r);rw[dF0 (List.not_lt.mpr (List.le_trans (List.not_lt.mp n) (List.not_lt.mp r)))]
  .refine(mem a D).a λt o bi=>?_;subst bi;refine(mem b B).a λu A bm=>?_;subst bm;rw[klt (hv _ o) (hv _ A)]at n;rw[klt (hv _ A) (hv _ o),dF0 (List.not_lt.mpr (List.le_of_lt (ė (ä n))))]
 refine Rl W ok (λY h=>?_) ?_ (λO b' E=>?_)
 .refine h.b λC p q bn=>?_;subst bn;rw[lM]at p;rw[<-ND (R:=C.filterMap _) hv (by have:=p.filterMap (T[·]?);rwa [JO]at this) (by rw[List.pairwise_filterMap];refine q.imp λ{i j} h b B c F=>?_;have h':=h _ _ (by rw[ó,B];rfl) (by rw[ó,F];rfl);rw[klt (hv c (è F)) (hv b (è B))]at h';exact List.not_lt.mp (of_decide_eq_false (ä h'))),List.map_filterMap];congr 1;funext i;rw[ó]
 .refine(ME (fY T).symm (g:=λi=>(T[i]?).getD []) _ (by rw[IL λi hi=>ő.mp hi,JO])).a λC L N=>?_;refine ZB C (by rw[lM];exact L) ?_ ?_
  .have M:=RD T;rw[<-N,pairwise_map]at M;refine List.Pairwise.imp_of_mem (λ{i j} hi Z h a c D F=>?_) M;refine(at' D).b λt z o br=>?_;subst br;refine(at' F).b λu J A bt=>?_;subst bt;rw[z,J]at h;rw[klt (hv u A) (hv t o),dF0 (List.not_lt.mpr (show VY t<=VY u from h))]
  .rw[<-N,IL (λi hi=>ő.mp (L.mem_iff.mp hi)),List.map_filterMap];congr 1;funext i;rw[ó]
 .refine List.ext_getElem (by rw[E.kl,lM,lM]) λm n r=>?_;rw[lM]at r;have s:=E.call m _ _ (by rw[ó,gE r];rfl) (gE n);rw[call _ (ŀ r)]at s;injection s with s _
  have G:=E.kind _ (ŀ n);rw[List.getElem_map];unfold Md at G;unfold Ed at s;split at G
  .rename_i e;obtain⟨es,P⟩:=G;rw[iP e,iP e,P]at s;rw[P];injection s with s
   rw[s]
  .rename_i e;rw[iN e,iN e]at s;injection s with s
   exact s.symm
theorem J8(h:VS d)(S):zE 1 eU [.val d] S=#[rk d,S,1]:=by
 have a:=(NC h).1;rcases h with⟨i,rfl⟩|⟨x,rfl⟩
 .refine cV rfl ?_ (lV a) (λl=>by simp[rk]);show zT _=_;unfold eT;rw[zD (by unfold bI;simp? [bB];rfl)];unfold iH;rfl
 .refine cV rfl ?_ (lV a) (λl=>by simp[rk]);show zT _=_;unfold eT;rw[bG (by unfold bI;simp? [bB];rfl)];rfl
def Ld{t:X0}(h: ∀d∈t,VS d):VX (t.map rk)=true:=cI λe a=>by refine(mM.mp a).a λd b c=>?_;subst c;exact(NC (h d b)).1
theorem So(h: ∀d∈t,VS d)(c:t.length<1000)(S):zE 1 eW [#[t,6]] S=.ok #[t.map rk,6] S:=by
 refine cV rfl ?_ (XA (QP (Ld h))) (λl=>by simp);have a:yD (zV 0) cX jB [none] [] t S=.ok (t.map rk) S:=sQ (wQ S) λd b=>by refine ZB _ rfl rfl ?_;unfold jB;simp? [J8 (h d b)]
 show zT (eV [some _] S)=_;unfold eV iI;simp? [oW,show t.length<1000000 by lia];rw[show vH 1 [] [some _]=[none]from rfl,a];rfl
theorem Lf(h: ∀d∈t,VS d)(b:t.length<1000)(S):zE 1 cB [#[t,6]] S=#[t.map rk,S,2]:=by
 have k: ∀(u:X0)(ks:X0)(x:Y0),(∀d∈u,VS d)->ks.length+u.length<2000-> ∃y,yZ (zV 2) bZ [] u [#[t,3],some _,x] (S++[.lst ks])=#[[#[t,3],#[↑1],y],S++[.lst (ks++u.map rk)],0]:=λu=>by
  induction u with
  |nil=>exact λks x _ _=>⟨x,by rw[ň,aN];rfl⟩
  |cons d u ih=>
   intro ks x c b;rw[lC]at b;obtain⟨y,a⟩:=ih (ks++[rk d]) (some d) (λe j=>c e (mO _ j)) (by simp;lia);refine⟨y,?_⟩;have hs:=zL S (.lst ks);rw[zW rfl ?_ (wQ _),a,aA]
   .rfl
   .unfold bZ dF;rcases c d mF0 with⟨i,rfl⟩|⟨z,rfl⟩
    .simp? [yX hs,xO hs #[],wL];rfl
    .simp? [yX hs,xO hs #[],wL];rfl
 obtain⟨y,a⟩:=k t [] none h (by simp;lia);refine IB (T:=[.lst (t.map rk)]) rfl ?_ (à _) (by simp) (QP (Ld h));show zT (fI [#[t,3],none,none] S)=_;unfold fI;rw[zD (show cA [#[t,3],none,none] S=#[[#[t,3],#[↑1],none],S++[.lst []],0] by unfold cA;exists 7,rfl),zD (by unfold lB;simp? [oW];exact a)];unfold lD;exists 7,rfl
theorem Sq{d:MV}:uY (ds++[d]) (-1)=some d:=by
 unfold uY
 have:NW (ds++[d]).length (-1)=some ds.length:=by
  unfold NW;simp
  lia
 rw[this];simp
theorem AT(h: ∀d∈t,VS d):pd (.tup t)=true/\DR (.tup t)<3:=by
 refine⟨by rw[wA];exact cI λd a=>(eK (h d a)).1,?_⟩;rw[xP];have:EV t<=0:=mZ λd a=>by rcases h d a with⟨i,rfl⟩|⟨x,rfl⟩<;>simp[DR]
 lia
theorem VD: ∀(L O:zA3) S  x ,S[m]? =#[O.map .tup,2]->(O++L).Nodup->(∀t∈O++L, ∀d∈t,VS d)->O.length+L.length<1000->
  ∃y,yZ (zV 2) eX [] (L.map .tup) [a,#[m],x] S=#[[a,#[m],y],S.set m (.lst ((O++L).map .tup)),0]
 |[],O,S,x,hS,_,_,_=>⟨x,by obtain⟨j,u⟩:=gS.mp hS;rw[aN, <-u,List.set_getElem_self j];rfl⟩
 |t::L,O,S,x,hS,hn,hv,hl=>by
  rw[lC]at hl;have e:O++t::L=O++[t]++L:=by simp
  rw[e]at hn hv ⊢;have app:oF #[m,1] [#[t,6]] S=#[.non,S.set m (.lst ((O++[t]).map .tup)),1]:=by rw[xO hS (by rw[lM];lia),ñ];rfl
  obtain⟨y,h⟩:=VD L _ _ _ (get_set hS) hn hv (by simp;lia);refine⟨y,?_⟩;rw[å,zW rfl ?_ (wQ _),h,List.set_set];unfold eX iK;by_cases c:O=[]
  .subst c;exists 7,Ar hS,show _=true from rfl,yX hS,app
  .obtain⟨P,z,rfl⟩: ∃P z,O=P++[z]:=⟨_,_,(List.dropLast_concat_getLast c).symm⟩
   have b:KO #[z,6] #[t,6] S=#[.bl true,S,1]:=by have q:=AT (hv z (by simp));rw[DA q.1 (AT (hv t (by simp))).1 #[],dF0 (λe=>(λe=>by subst e;simp[ĥ]at hn) (MV.tup.inj e))];rfl
   simp? [Ar hS,show(!((P++[z]).map MV.tup).isEmpty)=true by simp,Ĩ,fT,iF,(AD hS (by rw[ñ];exact Sq)),b,yX hS,app]
theorem Ss(hv: ∀t∈T, ∀d∈t,VS d)(hw: ∀t∈T,t.length=w)(e:w<1000)(hn:T.Nodup)(i:↑37<128)(S):zE 1 qM [.new (T.map .tup)] S=#[(tZ T).map .tup,S,2]:=by
 have p:=fY T;have c: ∀t∈[]++tZ T, ∀d∈t,VS d:=λt b=>hv t (p.mem_iff.mp b);have j:(S++[MO.lst (T.map .tup)]++[.lst []])[↑1]? =#[T.map .tup,2]:=by simp
 obtain⟨y,k⟩:=VD (m:=↑1+1) (a:=#[↑1]) (tZ T) [] (S++[.lst (T.map .tup)]++[.lst []]) none (by rw[aA];exact tV _ _ _) (p.nodup_iff.mpr hn) c (by have:=p.length_eq;simp;lia);refine cJ rfl rfl (T:=[.lst (T.map .tup),.lst ((tZ T).map .tup)]) ?_ (.inr (ZB (↑1+1) rfl (by lia) (tV _ _ _))) (aM λd n=>by refine(mM.mp n).a λt b g=>?_;subst g;exact lV (AT (c t b)).1);show zT (qL [#[↑1],none,none] (S++[.lst (T.map .tup)]))=_;unfold qL;have o:eY [#[↑1],none,none] (S++[.lst (T.map .tup)])=#[[#[↑1],#[↑1+1],none],S++[.lst (T.map .tup)]++[.lst []],0]:=by unfold eY;simp? [bB];simp
 have h:eZ [#[↑1],#[↑1+1],none] (S++[.lst (T.map .tup)]++[.lst []])=#[[#[↑1],#[↑1+1],y],S++[.lst (T.map .tup),.lst ((tZ T).map .tup)],0]:=by unfold eZ;simp? [Bf (l:=false) hv hw i (p:=#[↑1,1]) (by unfold jO;dsimp only;rw[j]) (λt b=>So (hv t b) (by rw[hw t b];exact e) _),YB];rw[k,aA];simp
 rw[zD o,zD h];unfold qK;exists 7,rfl
theorem En(hn:↑58=n)(a:F (zG rs S).1 (zG rs S).2=.ok #[l,1] S2)(b:↑1<=l)(h:S2[l]? =#[kvs,7]):zE n F rs S=.ok #[l,1] S2:=by
 unfold zE;rw[iP hn,a];show jL S _ S2=_;unfold jL;dsimp only;split
 .rw[iN #[],h]
 .rfl
theorem Eo(hn:↑58=n)(a:F (zG rs S).1 (zG rs S).2=.ok #[l,1] (S++T))(b:↑1<=l)(h:(S++T)[l]? =#[ds,2]):
  ∃r j,zE n F rs S=.ok r (S++j)/\(r=#[l,1]/\j=T\/r=.new ds/\j=[]/\AW ↑1 ds):=by
 unfold zE;rw[iP hn,a];show∃r j,jL S _ _=_/\_;unfold jL;rw[iP sO];dsimp only;rw[iN #[],h];dsimp only;split
 .rename_i h;exact YS _ ([]) (by rw[aN,List.take_left'];rfl) (.inr ⟨rfl,rfl,h⟩)
 .exact(YS _ T rfl (.inl ⟨rfl,rfl⟩))
def Ls(Z:Sto)(n:Nat)(r:Er)(Gs:List Ev):Prop:=(∃l a,r=#[l,1]/\Z[l]? =#[a,2]/\Fts Z n 1 a Gs)\/ ∃a,r=.new a/\Fts Z n 1 a Gs
theorem VE(h:Ls Z n r Gs)(p:q=.new #[xs,8]\/ ∃l,q=#[l,1]/\Z[l]? =#[xs.map MV.str,2])(i:↑8<1000)(hn:xs.Nodup)(z: ∀G∈Gs,Has xs G)(j:Gs.length<10000):
  ∃out T u,zE 2 MU [r,q] Z=#[out,Z++T,2]/\Fts (Z++T) u 1 out (rZ xs Gs):=by
 obtain⟨c,m,a,b,y,s,hm,A⟩: ∃c m a b,zG [r,q] Z=([.loc c,m],Z++b)/\(Z++b)[c]? =#[a,2]/\SqM (Z++b) m _/\Fts (Z++b) n 1 a Gs:=by
  rcases h with⟨l,a,rfl,h1,h2⟩|⟨a,rfl,h2⟩<;>rcases p with rfl|⟨k,rfl,h3⟩
  .exact(YQ l _ a _ ⟨rfl,zU h1,.inr ⟨_,rfl,zL _ _⟩,h2.grow⟩)
  .exact(YQ l _ a ([]) ⟨by rw[aN];rfl,zU h1,.inr ⟨k,rfl,zU h3⟩,h2.grow⟩)
  .exact(YQ _ _ a _ ⟨by simp[zG],lW _ _ _,.inr ⟨_,rfl,tV _ _ _⟩,h2.grow⟩)
  .exact(YQ _ _ a _ ⟨rfl,zL _ _,.inr ⟨k,rfl,zU h3⟩,h2.grow⟩)
 refine(zBE s hm i hn A z j).d λout T e d=>?_;rw[aA]at e d;refine(NA rfl (by rw[y];exact e)).a λv o w=>?_;refine XE out v ((Z++b).length) o ?_;rcases w with rfl|⟨rfl,hlo⟩
 .exact d
 .exact d.cut hlo (by rw[lA];lia)
noncomputable def O1(vs:X0):Nat->List (List MV)
 |0=>[[]]
 |n+1=>vs.flatMap λv=>(O1 vs n).map (v::·)
theorem Bg(vs): ∀n,(O1 vs n).length=↑10 ^ n
 |0=>rfl
 |n+1=>by
  have: ∀us:List MV,(us.flatMap λv=>(O1 vs n).map (v::·)).length=↑66 * (O1 vs n).length:=λus=>by
   induction us with
   |nil=>simp
   |cons u us ih=>rw[List.flatMap_cons,lA,ih,lM,lC,Nat.add_mul,Nat.one_mul,Nat.add_comm]
  rw[O1,this,Bg vs n,Nat.pow_succ,Nat.mul_comm]
theorem Bh: ∀{k},(∀d∈k,d∈vs)->k∈O1 vs k.length
 |[],_=>mS.mpr rfl
 |d::k,h=>List.mem_flatMap.mpr ⟨d,h d mF0,mM.mpr ⟨k,Bh λx j=>h x (mO _ j),rfl⟩⟩
def YG{vs:X0}{P:zA3}(hn:P.Nodup)(h: ∀k∈P,k.length=n/\ ∀d∈k,d∈vs):P.length<=↑10 ^ n:=by rw[<-Bg];exact hn.length_le_of_subset λk a=>by obtain⟨rfl,b⟩:=h k a;exact Bh b
def kC:x∈wF as↔ ∃b∈as, ∃t∈b.2,vn t=some x:=by simp[wF]
def Ug{vs:X0}(hv: ∀r∈rows, ∀c∈r.2,c∈vs)(m: ∀b∈as,Mt rows b σ)(a:x∈wF as):σ x∈vs:=by obtain⟨b,d,t,h,e⟩:=kC.mp a;refine hv _ (m b d) (σ x) (mM.mpr ⟨t,h,?_⟩);unfold Ku;rw[e]
def DC{fs:Ch}(neg)(h:S[l]? =#[fs.map MV.str,2]):KQ neg (.val (.str x)) #[l,1] S=#[.bl (if neg=true then !decide (x∈fs)else decide (x∈fs)),S,1]:=by rw[oA neg h (tR x) CQ,dec_is CS]
def VF{xs:Ch}(hs:stay gs Z)(b: ∀x,cf (#[x,4]::ρb) Z=.ok (p x) Z)(a: ∀x,ef (#[x,4]::ρb) Z=#[.str x,Z,1]):yD (zV 0) cf ef (none::ρb) gs #[xs,8] Z=.ok ((xs.filter p).map MV.str) Z:=
 JK hs λx _=>(ZB _ rfl (b x) (a x))
theorem VG(xs)(Ds): ∀Gs:List Ev,(joinM xs Gs Ds).length<=Gs.length * Ds.length
 |[]=>by simp[joinM]
 |G::Gs=>by
  have j:=VG xs Ds Gs;have a:(Bc xs Ds (yR xs G)).length<=Ds.length:=Ď _ _;show((Bc xs Ds _).map _++joinM xs Gs Ds).length<=_;rw[lA,lM,lC,Nat.succ_mul]
  lia
theorem Sv(xs)(Gs):(rZ xs Gs).length<=Gs.length:=by
 have: ∀(Gs:List Ev)(P:List _),(RP xs Gs P).length<=P.length+Gs.length:=λGs=>by
  induction Gs with
  |nil=>exact λP=>à _
  |cons G Gs ih=>
   intro P;have a:=ih (UW P (yR xs G));have b:=HE P (yR xs G);show(RP xs Gs (UW P _)).length<=_;rw[lC]
   lia
 rw[rZ];simpa using this Gs []
structure QC(rows as:List Rw)(hd:Ch)(vs:X0)(ys:Ch):Prop where
 hv: ∀r∈rows, ∀c∈r.2,c∈vs
 vv: ∀v∈vs,VS v
 v1:1<=↑10
 rl:rows.length<=90
 ha: ∀b∈as,(∀d∈b.2,xK d)/\b.2.length<=4
 hw: ∀b∈as, ∀r∈rows,r.1=b.1->b.2.length=r.2.length
 al:as.length<=10
 hh: ∀x∈hd,x∈wF as
 hl:hd.length<=10
 hy: ∀x∈wF as,x∈ys
 yl:↑40<=10
 pw:↑10 ^ ↑40<=100
 ph:↑10 ^ hd.length<128
structure MC(S:Sto)(lr lm:Nat)(rows as:List Rw)(hd:Ch)(vs:X0)(ys:Ch):Prop extends QC rows as hd vs ys where
 hr:S[lr]? =#[rows.map zX,2]
 hm:S[lm]? =some (.lst (rows.map λ_=>.int 1))
noncomputable abbrev MR(lr i:Nat)(H A:X0)(h a:Nat)(p b c d e f g:Y0):Rho:=[#[lr],#[i],#[[.tup H,.tup A],3],#[H,3],#[A,3],#[h],#[a],p,b,c,d,e,f,g]
structure MI(S:Sto)(rows:List Rw)(hd:Ch)(done rest:List Rw)(kn:Ch)(ws:X0)(Gs:List Ev)(n0:Nat)(mk:Int)(lk lf:Nat)(Z:Sto):Prop where
 ex: ∃T,Z=S++T
 k:Z[lk]? =#[kn.map MV.str,2]
 f:Z[lf]? =#[ws,2]
 F:Fts Z n0 mk ws Gs
 b: ∀Y,FL #[mk,5] #[1,5] Y=.ok #[1,5] Y
 I:FI rows done kn Gs
 nd:kn.Nodup
 kk: ∀x,x∈kn↔x∈wF done/\(x∈hd\/x∈wF rest)
 gl:Gs.length<=100
 gL: ∀G∈Gs,G.length<=1000
theorem RE(xs): ∀ Gs {P},P.Nodup->(RP xs Gs P).Nodup
 |[],_,h=>h
 |G::Gs,_,h=>RE xs Gs (H9 h _)
section
theorem Sw(C:MC S lr lm rows as B vs ys){rest:List Rw}(ea:as=done++a::rest){mk:Int}(M:MI S rows B done (a::rest) kn ws Gs n0 mk lk lf Z)(c d e f g):
  ∃j T Gs' n0' lk' lf' c' d' e' f' g' Z',yW (MR lr lm #[B,8] #[as,9] lk lf (some (.int  done.length )) (some (zX a)) c d e f g) Z=#[MR lr lm #[B,8] #[as,9] lk' lf' (some (.int  done.length )) (some (zX a)) c' d' e' f' g',Z',0]/\MI S rows B (done++[a]) rest j T Gs' n0' 1 lk' lf' Z':=by
 obtain⟨T0,ar⟩:=M.ex;have v:a∈as:=by rw[ea];simp
 have ak: ∀b∈rest,b∈as:=λb w=>by rw[ea];simp[w]
 have aw:=C.al;have bl:rest.length<=10:=by rw[ea]at aw;simp at aw;lia
 have vv: ∀r∈rows, ∀c∈r.2,VS c:=λr hr c hc=>C.vv c (C.hv r hr c hc);obtain⟨own,ho⟩: ∃own,own=yP [] (wF [a]):=⟨_,rfl⟩
 have s: ∀x,x∈own↔ ∃t∈a.2,vn t=some x:=λx=>by rw[ho,cK,kC];simp
 have bj:own.length<=4:=by
  have h1:=tU (wF [a]) [];have h2:(wF [a]).length<=a.2.length:=by simp only[wF,List.flatMap_cons,List.flatMap_nil,aN];exact Ĳ _ _
  have h3:=(C.ha a v).2;rw[ho];simp at h1
  lia
 have aq:own.Nodup:=by rw[ho];exact uT _ Ł
 obtain⟨u,aa⟩: ∃u,u=own.filter λx=>decide (x∈kn):=⟨_,rfl⟩
 obtain⟨ask,X⟩: ∃ask,ask=B++yP [] (wF rest):=⟨_,rfl⟩
 obtain⟨z,L⟩: ∃z,z=own.filter λx=>if decide (x∈u)=true then true else decide (x∈ask):=⟨_,rfl⟩
 obtain⟨Q,J⟩: ∃Q,Q=own.filter λx=>!decide (x∈u):=⟨_,rfl⟩
 obtain⟨j,ah⟩: ∃j,j=(kn++Q).filter λx=>decide (x∈ask):=⟨_,rfl⟩
 have E: ∀x,x∈u↔x∈own/\x∈kn:=λx=>by rw[aa];simp
 have au: ∀x,x∈ask↔x∈B\/x∈wF rest:=λx=>by rw[X,ê,cK];simp
 have ae: ∀x,x∈z↔x∈own/\(x∈u\/x∈ask):=λx=>by rw[L];simp
 have ay: ∀x,x∈j↔(x∈kn\/x∈own)/\x∈ask:=λx=>by
  rw[ah,J];simp only[Ę,ê,E]
  grind
 have ai:j.Nodup:=by rw[ah];refine List.Pairwise.filter _ (ĥ.mpr ⟨M.nd,J▸List.Pairwise.filter _ aq,λx i y hy e=>?_⟩);rw[J]at hy;simp[E]at hy;exact hy.2.elim (· hy.1) (· (e▸i))
 have af: ∀x,x∈j↔x∈wF (done++[a])/\(x∈B\/x∈wF rest):=λx=>by
  have e1:x∈wF (done++[a])↔x∈wF done\/x∈own:=by rw[s];simp[kC,or_and_right,exists_or]
  have e2:x∈wF (a::rest)↔x∈own\/x∈wF rest:=by rw[s];simp[kC]
  rw[ay,au,M.kk,e1,e2]
  grind
 have a0:↑44<=ys.length:=ai.length_le_of_subset λx i=>C.hy x (by refine(kC.mp ((af x).mp i).1).a λb w h=>?_;exact kC.mpr ⟨b,by rw[ea];simp at w ⊢; exact w.imp id .inl,h⟩);have bh:=C.yl;have a': ∀G∈Gs,Has u G/\G.length<=1000:=λG P=>⟨⟨(M.I.dom G P).1,λx i=>((M.I.dom G P).2 x).mpr ((E x).mp i).2⟩,M.gL G P⟩
 have ao: ∀G∈cO rows a,Has z G:=λG P=>by have:=(VC (C.ha a v).1 (C.hw a v) vv s P).2;exact⟨this.1,λx i=>this.2 x ((ae x).mp i).1⟩
 have bo:=C.rl;have fl:(cO rows a).length<=rows.length:=ô (Ĳ _ _) (Ď _ _);have zl: ∀(xs:Ch)(k:X0),(dS xs k).length<=xs.length:=λxs k=>by unfold dS;rw[Ŀ,lM];lia
 have D: ∀{Y:Sto}{l:Nat}{o x:MO},Y[l]? =some o->(Y++[x])[l]? =some o:=λh=>zU h;obtain⟨O,q1⟩: ∃Y,Y=Z++[MO.lst #[own,8]]:=⟨_,rfl⟩
 obtain⟨A,q2⟩: ∃Y,Y=O++[MO.lst #[u,8]]:=⟨_,rfl⟩
 obtain⟨H,q3⟩: ∃Y,Y=A++[MO.lst #[ask,8]]:=⟨_,rfl⟩
 have u3: ∀{l:Nat}{o:MO},Z[l]? =some o->H[l]? =some o:=λh=>by rw[q3,q2,q1];exact D (D (D h))
 have a9:O[↑17]? =#[own.map MV.str,2]:=by rw[q1];exact zL _ _
 have a7:A[O.length]? =#[u.map MV.str,2]:=by rw[q2];exact zL _ _
 have ax:H[A.length]? =#[ask.map MV.str,2]:=by rw[q3];exact zL _ _
 have b9:H[↑17]? =#[own.map MV.str,2]:=by rw[q3,q2];exact D (D a9)
 have ab:H[O.length]? =#[u.map MV.str,2]:=by rw[q3];exact D a7
 have uS: ∀{l:Nat}{o:MO},S[l]? =some o->H[l]? =some o:=λh=>u3 (by rw[ar];exact zU h);refine(zBC (uS C.hr) (uS C.hm) vv #[] (C.ha a v)).d λT4 w4 f1 f2=>?_;refine(VE (q:=.new #[z,8]) (.inr ⟨w4,rfl,f2⟩) (.inl rfl) (by have:=Ď (λx=>if decide (x∈u)=true then true else decide (x∈ask)) own;rw[<-L]at this;lia) (L▸List.Pairwise.filter _ aq) ao #[]).g λout T5 n5 V=>V.elim λc1 c2=>?_;obtain⟨Z4,q4⟩: ∃Y,Y=H++T4++T5++[MO.lst out]:=⟨_,rfl⟩
 obtain⟨Z5,q5⟩: ∃Y,Y=Z4++[MO.lst #[Q,8]]:=⟨_,rfl⟩
 obtain⟨Z6,q6⟩: ∃Y,Y=Z5++[MO.lst #[j,8]]:=⟨_,rfl⟩
 have U: ∀{l:Nat}{o:MO},H[l]? =some o->Z4[l]? =some o:=λh=>by rw[q4];exact zU (zU (zU h))
 have u6: ∀{l:Nat}{o:MO},Z4[l]? =some o->Z6[l]? =some o:=λh=>by rw[q6,q5];exact D (D h)
 have a4:Z4[(H++T4++T5).length]? =#[out,2]:=by rw[q4];exact zL _ _
 have a6:Z5[Z4.length]? =#[Q.map MV.str,2]:=by rw[q5];exact zL _ _
 have a5:Z6[Z5.length]? =#[j.map MV.str,2]:=by rw[q6];exact zL _ _
 have a3: ∀N∈rZ z (cO rows a),Has u N/\N.length<=1000:=λN hN=>by refine(oB.mp hN).a λG P ac=>?_;subst ac;have:=RB (ao G P);refine⟨⟨this.1,λx i=>(this.2 x).mpr ((ae x).mpr ⟨((E x).mp i).1,.inl i⟩)⟩,ô (zl _ _) (by have:=Ď (λx=>if decide (x∈u)=true then true else decide (x∈ask)) own;rw[<-L]at this;lia)⟩
 have bq:=Sv z (cO rows a);have F6:Fts Z6 n5 1 out (rZ z (cO rows a)):=by rw[q6,q5,q4];exact c2.grow.grow.grow
 have bf:(rZ z (cO rows a)).length * Gs.length<=90 * 100:=mul_le_mul #[] M.gl;refine(jn_f (m:=.loc O.length) (u6 (U (u3 M.f))) (u6 a4) (.inr ⟨_,rfl,u6 (U ab)⟩) (by have:=Ď (λx=>decide (x∈kn)) own;rw[<-aa]at this;lia) (Fts.move (λ_ _ h=>u6 (U (u3 h))) M.F) F6 a' a3 #[] #[] M.b).g λl7 T7 ts a1=>a1.h λj1 j2 j3 j4=>?_;obtain⟨W,aj⟩: ∃W,W=joinM u Gs (out.zip (rZ z (cO rows a))):=⟨_,rfl⟩
 rw[<-aj]at j4;have bc:(out.zip (rZ z (cO rows a))).length<=90:=by rw[Ŀ];lia
 have bp:W.length<=9000:=by
  have:=VG u (out.zip (rZ z (cO rows a))) Gs;have h2:=mul_le_mul M.gl bc;rw[<-aj]at this
  lia
 obtain⟨av,ag⟩:=Sn (ask:=λx=>x∈ask) M.I (C.ha a v).1 (C.hw a v) vv s E ae ay (λb w t ht x i ho=>(M.kk x).mpr ⟨kC.mpr ⟨b,w,t,ht,i⟩,.inr (kC.mpr (by refine((s x).mp ho).a λt' h1 h2=>?_;exact⟨a,mF0,t',h1,h2⟩))⟩) ((λN=>by rw[<-mM,List.map_snd_zip (le_of_eq (F6.len).symm)]));rw[<-aj]at av ag;refine(Eo (n:=3) (F:=tM) (rs:=[#[lf,1],#[(H++T4++T5).length,1],#[O.length,1]]) rfl j1 #[] j3).d λr T8 k1 k2=>?_
 have ba:Ls (Z6++T8) l7 r W:=by
  rcases k2 with⟨rfl,rfl⟩|⟨rfl,rfl,hlo⟩
  .exact .inl (Z0 l7 ts rfl j3 j4)
  .exact .inr ⟨ts,rfl,j4.cut hlo #[]⟩
 refine(VE (q:=#[Z5.length,1]) ba (.inr ⟨_,rfl,zU a5⟩) #[] ai av #[]).g λT T9 n9 a2=>a2.elim λm1 m2=>?_
 have bb:(rZ j W).length<=100:=by
  refine ô ?_ (ô (Nat.pow_le_pow_right C.v1 a0) C.pw);rw[rZ,lM];refine YG (RE j W Ł) λk hk=>?_;rcases (uX j W [] k).mp hk with h|⟨K,hK,rfl⟩
  .cases h
  .refine⟨lM _,λd B=>?_⟩;refine(mM.mp B).a λx i ad=>?_;subst ad;refine(ag.snd _ (oB.mpr ⟨K,hK,rfl⟩)).a λσ s1 s2=>?_;rw[<-HF (G:=K) i,s2 x i];exact Ug C.hv s1 ((af x).mp i).1
 have p1:zE 1 yV [.new [zX a]] Z=#[own.map MV.str,Z,2]:=ho▸F9 (as:=[a]) (λb w=>by rw[mS.mp w];exact C.ha a v) (by simp);have p3:zE 1 yV [#[rest.map zX,6]] A=#[(yP [] (wF rest)).map MV.str,A,2]:=Ud (.inl rfl) (λb w=>C.ha b (ak b w)) #[]
 have a8:jU (.new #[B,8]) (.new ((yP [] (wF rest)).map MV.str)) A=#[ask.map MV.str,A,2]:=by
  rw[X,ñ]
  exact XB rfl rfl (fits (by
   have h1:=C.hl;have h2:=uT (wF rest) (ks:=[]) Ł;have h3:=h2.length_le_of_subset (l₂:=ys) λx i=>C.hy x (by rw[cK]at i;rw[kC]at i ⊢; obtain h|⟨b,w,h⟩:=i;cases h;exact⟨b,ak b w,h⟩);simp only[lM]
   lia))
 have az:rY #[as,9] (some ((done.length:Int)+1)) none=rest.map zX:=by rw[show(done.length:Int)+1=((done.length+1:Nat):Int) by simp,MX,ea,show done++a::rest=(done++[a])++rest by simp,ñ,List.drop_left' (by simp)]
 have bg:kn.length+Q.length<=14:=by
  have h1:=M.nd.length_le_of_subset (l₂:=ys) λx i=>C.hy x (by have:=((M.kk x).mp i).1;rw[kC]at this ⊢; obtain⟨b,w,h⟩:=this;exact⟨b,by rw[ea];simp[w],h⟩);have h2:Q.length<=own.length:=J▸Ď _ _
  lia
 have p6:jU #[lk,1] #[Z4.length,1] Z5=#[(kn++Q).map MV.str,Z5,2]:=by rw[ñ];exact XB (ZN (by rw[q5];exact D (U (u3 M.k)))) (ZN a6) (fits (by simp only[lM];lia))
 refine Wa j T (rZ j W) n9 Z5.length ((Z6++T8++T9).length) (#[↑17]) (#[O.length]) (#[A.length]) (#[(H++T4++T5).length]) (#[Z4.length]) (Z6++T8++T9++[.lst T]) ⟨?_,⟨?_,zU (zU (zU a5)),zL _ _,m2.grow,λ_=>rfl,ag,ai,af,bb,λG P=>?_⟩⟩
 .unfold yW;apply zA
  .unfold kR;simp? [p1];rw[<-q1]
  apply zA
  .unfold kS;simp? [xX a9,lM,show own.length<1000000 by lia];rw[show vH 1 [5] _=[none,#[lk]]from rfl,VF (p:=λx=>decide (x∈kn)) (yN a9) (λx=>by unfold kN;exists 7,DC false (show O[lk]? =_ by rw[q1];exact D M.k),fT,iF) (λ_=>rfl), <-aa];simp? [<-q2];rfl
  apply zA
  .unfold kT;simp? [show SU [#[B.map MV.str,6]] A=#[B.map MV.str,A,2] from rfl,Ru,az,p3,a8];rw[<-q3]
  apply zA
  .unfold kU;simp? [f1,xX (show(H++T4)[↑17]? =_ from zU b9),lM,show own.length<1000000 by lia];rw[show vH 1 [10,11] _=[none,#[O.length],#[A.length]]from rfl,VF (p:=λx=>if decide (x∈u)=true then true else decide (x∈ask)) (yN (zU b9)) (λx=>by unfold kO;simp? [DC false (zU ab),DC false (zU ax),fT,iF];split<;>rfl) (λ_=>rfl), <-L];simp? [c1];rw[<-q4]
  apply zA
  .unfold kW;simp? [xX (U b9),lM,show own.length<1000000 by lia];rw[show vH 1 [10] _=[none,#[O.length]]from rfl,VF (p:=λx=>!decide (x∈u)) (yN (U b9)) (λx=>by unfold kP;exists 7,DC true (U ab)) (λ_=>rfl), <-J];simp? [<-q5];rfl
  apply zA
  .unfold kX;simp? [p6,YB,lM,show(kn++Q).length<1000000 by rw[lA];lia];rw[show vH 1 [11] _=[none,#[A.length]]from rfl,VF (p:=λx=>decide (x∈ask)) (wQ _) (λx=>by unfold kQ;exists 7,DC false (by rw[q5];exact D (U ax)),fT,iF) (λ_=>rfl), <-ah];simp? [<-q6];rfl
  unfold kY;exists 7,k1,m1
 .exact⟨_,by rw[q6,q5,q4,q3,q2,q1,ar];simp only[aA];rfl⟩
 .refine(oB.mp P).a λK hK ap=>?_;subst ap;exact ô (zl _ _) #[]
end
theorem Lg(E)(k d):(putK E k d).map (·.1)=if k∈E.map (·.1)then E.map (·.1)else E.map (·.1)++[k]:=by
 unfold putK;by_cases h:k∈E.map (·.1)
 .have hs:(look E k).isSome=true:=by
   cases z:look E k with
   |none=>refine(mM.mp h).a λp a e=>?_;exact absurd e (HC z p a)
   |some d=>rfl
  rw[iP hs,iP h,ħ];exact Ė λp _=>by simp only[Function.comp];split<;>rfl
 .rw[iN (λz=>h (JF z)),iN h,ñ];rfl
theorem NF(xs)(m): ∀ Gs  E  P ,E.map (·.1)=P.map MV.tup->((Gs.map λG=>(MV.tup (yR xs G),m)).foldl (λj p=>putK j p.1 p.2) E).map (·.1)=(RP xs Gs P).map MV.tup
 |[],_,_,h=>h
 |G::Gs,E,P,h=>NF xs m Gs _ (UW P _) (by
  have:MV.tup _∈P.map MV.tup↔yR xs G∈P:=⟨λz=>by refine(mM.mp z).a λk q e=>?_;exact MV.tup.inj e▸q,λz=>Ą z⟩
  show(putK E _ m).map (·.1)=_;rw[Lg,h];unfold UW;by_cases z:yR xs G∈P
  .rw[iP z,iP (this.mpr z)]
  .rw[iN z,iN λy=>z (this.mp y),ñ];rfl)
theorem NG: ∀(Gs:List Ev),(∀G∈Gs,Has xs G)->iG (Gs.map λG=>.tup [.tup (yR xs G),m])=some (Gs.map λG=>(.tup (yR xs G),m))
 |[],_=>rfl
 |G::Gs,h=>by show(if keyOk _=true then(iG _).map _ else none)=_;rw[iP (JN (h G mF0).vs),NG Gs λK j=>h K (mO _ j)];rfl
def J9(rows as:List Rw)(a:Ch)(k:X0):Prop:= ∃σ:List Nat->MV,(∀b∈as,Mt rows b σ)/\k=a.map σ
section
theorem Lh(C:MC S lr lm rows as hd vs ys): ∀ rest j ,as=j++rest-> ∀{kn}{ws}{Gs}{N}{mk}{J I}{Z},MI S rows hd j rest kn ws Gs N mk J I Z-> ∀p b c d e f g:Option MV,
  ∃u B z G mk' m q T Y O Q e' U g' L,yZ (iB 2 (zB (zV 7) (zB (zV 8) zY))) yW [] (((rest.map zX).zipIdx ↑44).map λp=>.tup [.int (p.2),p.1]) (MR lr lm #[hd,8] #[as,9] J I p b c d e f g) Z=#[MR lr lm #[hd,8] #[as,9] m q T Y O Q e' U g',L,0]/\MI S rows hd as [] u B z G mk' m q L
 |[],j,e0,kn,ws,Gs,N,mk,J,I,Z,M,p,b,c,d,e,f,g=>(Wi kn ws Gs N mk J I p b c d e f g Z ⟨rfl,by rw[aN]at e0;rw[e0];exact M⟩)
 |a::rest,j,ea,kn,ws,Gs,N,mk,J,I,Z,M,p,b,c,d,e,f,g=>by refine V0 λn=>?_;refine(Sw C ea M c d e f g).z λ_ _ _ _ lk1 lf1 c1 d1 e1 f1 g1 Z1 k=>k.elim λh1 M1=>?_;obtain⟨u,B,z,G,mk',m,q,T,Y,O,Q,e',U,g',L,h,i⟩:=Lh C rest _ (by rw[ea];simp) M1 _ _ c1 d1 e1 f1 g1;refine n ?_;refine Wi u B z G mk' m q T Y O Q e' U g' L ⟨?_,i⟩;rw[lA]at h;rw[å,zipIdx_cons,å,zW rfl h1 (wQ _)];exact h
theorem ma_f(C:MC S lr lm rows as hd vs ys): ∃(l:Nat)(T:Sto)(u:zA3)(kvs:Ev),xS [.loc lr,.loc lm,.tup [.tup #[hd,8],.tup #[as,9]]] S=.ok #[l,1] (S++T)/\↑1<=l/\jW (S++T) #[l,1]=some (l,kvs)/\(S++T)[l]? =#[kvs,7]/\kvs.map (·.1)=u.map MV.tup/\u.Nodup/\ ∀k,k∈u↔J9 rows as hd k:=by
 obtain⟨O,r⟩: ∃Y,Y=S++[MO.lst [],.dic [],.lst [.tup [.loc (↑1+1),.int (-1)]]]:=⟨_,rfl⟩
 refine(Lh C as [] rfl (ws:=[.tup [.loc _,.int (-1)]]) (Gs:=[[]]) ⟨⟨_,r⟩,by rw[r];exact lW _ _ _,by rw[r];exact XZ (i:=2) rfl,⟨⟨_,rfl,zero_le _,by rw[r];exact XZ rfl⟩,trivial⟩,λ_=>rfl,⟨λG a=>by rw[mS.mp a];exact⟨QW,λx=>⟨λz=>absurd rfl z,λz=>by cases z⟩⟩,λG _=>(Z3 (λ_=>.non) (λb P=>by cases P) (λx j=>by cases j)),λσ _=>⟨[],mS.mpr rfl,λx j=>by cases j⟩⟩,Ł,λx=>by simp[wF],by simp,λG a=>by rw[mS.mp a];simp⟩ none none none none none none none).A λkn ws Gs n0 mk X A p b c d e f g Z V=>V.elim λK M=>?_;rw[31];obtain⟨T,hT⟩:=M.ex;have v: ∀x,x∈kn↔x∈hd:=λx=>by rw[M.kk x];exact⟨λh=>h.2.elim id λz=>by simp[wF]at z,λh=>⟨C.hh x h,.inl h⟩⟩
 have y: ∀G∈Gs,Has hd G:=λG a=>⟨(M.I.dom G a).1,λx j=>((M.I.dom G a).2 x).mpr ((v x).mpr j)⟩
 have m:=M.F.len;have N:=M.gl
 have L:yD ↑33 xB yO [none,none,#[hd.map MV.str,3]] [(A,ws)] ws Z=.ok (Gs.map λG=>.tup [.tup (yR hd G),.int mk]) Z:=by
  have:=fV (f:=Prod.fst) (gf:=iB 2 (zB (zV 0) (zB (zV 1) zY))) (cf:=xB) (ef:=yO) (ρb:=[none,none,some _]) (yN M.f) λD H=>by obtain⟨s,e,w,U⟩:=QZ M.F D H;refine ZB _ (by rw[w];rfl) rfl ?_;have Q:zE 2 yI [#[e,1],.val _] Z=.ok #[yR hd D.2,6] Z:=Ax U (y _ s).1 (.inl rfl) (y _ s).2 (by have:=C.hl;lia);unfold yO;exists 7,Q
  rw[List.map_fst_zip (le_of_eq m)]at this;rw[this,show(ws.zip Gs).map (λD=>MV.tup [.tup _,.int mk])=((ws.zip Gs).map Prod.snd).map λG=>MV.tup [.tup _,.int mk] by rw[ħ];rfl,List.map_snd_zip (le_of_eq m.symm)]
 obtain⟨kvs,o⟩: ∃kvs,kvs=Al (Gs.map λG=>(MV.tup (yR hd G),MV.int mk)):=⟨_,rfl⟩
 have n:kvs.map (·.1)=(RP hd Gs []).map MV.tup:=by rw[o];exact NF hd _ Gs [] [] rfl
 refine bw ?_;refine YQ ↑17 _ (RP hd Gs []) kvs ⟨?_,by rw[hT,lA];lia,?_,by rw[<-aA, <-hT];exact zL _ _,n,RE hd Gs Ł,λk=>?_⟩
 .show zT _=_;unfold cY;rw[zD rfl,zD (show gV _ S=#[[some _,some _,some _,some _,some _,none,none,none,none,none,none,none,none,none],S,0] from rfl)];rw[zD (show xY [some _,some _,some _,some _,some _,none,none,none,none,none,none,none,none,none] S=#[[some _,some _,some _,some _,some _,some _,none,none,none,none,none,none,none,none],_,0] by unfold xY;exists 7,rfl)];rw[zD (show xZ [some _,some _,some _,some _,some _,some _,none,none,none,none,none,none,none,none] _=#[MR lr lm #[hd,8] #[as,9] ↑1 (↑1+2) none none none none none none none,O,0] by unfold xZ;simp? [BR];rw[r];simp)];rw[zD (by unfold gW;simp? [(λW S=>rfl)];exact K)];unfold gX;simp? [xX M.f,show ws.length<1000000 by lia];rw[show vH 2 [3] _=[none,none,some _]from rfl,L];simp? [show MT [.new _] Z=.ok _ (Z++[.dic kvs]) by unfold MT;dsimp only;rw[show(jO Z _).bind iG=iG _ from rfl,NG Gs y,o]];rw[hT,aA];rfl
 .rw[<-aA, <-hT];unfold jW;dsimp only;rw[zL];dsimp only;rw[iP];rw[ÿ];intro q B;have:q.1∈kvs.map (·.1):=Ą B;rw[n]at this;refine(mM.mp this).a λk _ e=>?_;rw[<-e];rfl
 .rw[uX];constructor
  .rintro(h|⟨G,a,rfl⟩)
   .cases h
   .refine(M.I.snd G a).a λσ E J=>?_;exact Z3 (σ) E (Ė λx j=>J x ((v x).mpr j))
  .rintro⟨σ,s,rfl⟩;refine(M.I.cmp σ s).a λG a w=>?_;exact .inr ⟨G,a,Ė λx j=>(w x ((v x).mpr j)).symm⟩
def AU(Q:QC rows as j vs ys)(h:J9 rows as j k):k.length=↑44/\ ∀d∈k,d∈vs:=by refine h.a λσ b c=>?_;subst c;refine⟨lM _,λd j=>?_⟩;refine(mM.mp j).a λx a g=>?_;subst g;exact Ug Q.hv b (Q.hh x a)
theorem zBG(Q:QC rows as m vs ys)(e:S[lr]? =#[rows.map zX,2]): ∃(j:zA3)(T:Sto),j.Nodup/\(∀k,k∈j↔J9 rows as m k)/\cZ [.loc lr,.tup [.tup #[m,8],.tup #[as,9]]] S=#[(tZ j).map MV.tup,S++T,2]:=by
 refine(ma_f ⟨Q,zU e,zL _ _⟩).j λl T j n g=>g.s λo p v u w c h=>?_;have y:=Q.rl;have b: ∀k∈j,k.length=m.length/\ ∀d∈k,d∈vs:=λk i=>AU Q ((h k).mp i);have s:zE 3 xS [#[lr,1],.new _,.val _] S=.ok _ _:=En rfl o (by rw[lA]at p;lia) u;have q:EL [#[l,1]] (S++[.lst (rows.map λ_=>.int 1)]++T)=#[j.map MV.tup,S++[.lst (rows.map λ_=>.int 1)]++T,2]:=by unfold EL;dsimp only;rw[v];dsimp only;rw[w]
 refine Z0 j ([.lst (rows.map λ_=>.int 1)]++T) c h ?_;show zT (uR [#[lr],some _] S)=_;unfold uR tN;simp? [xX e,lM,show rows.length<1000000 by lia];rw[show vH 1 [] [some (MV.loc lr),some _]=[none]from rfl,(fV (yN e) λr _=>(ZB _ rfl rfl rfl))];simp? [s,q,(Ss (λt a d m=>Q.vv d ((b t a).2 d m)) (λt a=>(b t a).1) (by have:=Q.hl;lia) c (ł (YG c b) Q.ph) (S++[.lst (rows.map λ_=>.int 1)]++T))];rw[aA];rfl
end
section
def Li(Q:QC rows as j vs ys)(b: ∀k,k∈F↔J9 rows as j k):(∀t∈tZ F, ∀d∈t,VS d)/\ ∀n,AW n ((tZ F).map MV.tup):=by have hv:=λt a d j=>Q.vv d ((AU Q ((b t).mp ((fY F).mem_iff.mp a))).2 d j);exact⟨hv,λn=>aM λd j=>by refine(mM.mp j).a λt a c=>?_;subst c;exact lV (AT (hv t a)).1⟩
end
theorem le_str(i j)(S):RO (.val (.str i)) (.val (.str j)) S=#[.bl (!decide (j<i)),S,1]:=rfl
def FU(i)(S):zE 1 gU [#[i,5]] S=#[.bl true,S,1]:=fO rfl (by show zT _=_;rfl)
theorem Lj(h:Nm x)(S):zE 1 fR [.val (.str x)] S=#[.bl true,S,1]:=fO rfl (by
 refine h.e λe i k=>?_;have j: ∀S,nZ [.val (.str x)] S=.ok #[x.length,5] S:=λS=>iP (fits #[]);show zT (EM [#[x,4]] S)=_;refine wC (zA (ρ':=[#[x,4]]) (S':=S) ?_ ?_)
 .unfold sY;simp? [j,Fc,le_int,dT0 (show(1:Int)<=x.length by lia),dT0 (show(x.length:Int)<=8 by lia)];rfl
 have b:yD (zV 0) dW jZ (vH 1 [] [#[x,4]]) [] _ S=.ok ((x.map λc=>MV.str [c]).map λ_=>.bl true) S:=sQ (wQ S) λd m=>by refine(mM.mp m).a λc b d=>?_;subst d;obtain⟨e,i⟩:=(show (!decide ([c]<[97]))=true/\(!decide ([122]<[c]))=true by simp[ŉ];exact (k c b));refine ZB ([#[[c],4]]) rfl rfl ?_;unfold jZ;simp? [Fc,le_str,e,i]
 unfold sZ;simp? [bB];show(((((if(x.map λc=>MV.str [c]).length<1000000 then(yD (zV 0) dW jZ _ [] _ S).bind λo S=>R.ok (Er.new o) S else .no).bind λp a=>R.ok [p] a).bind WV).bind λr a=>R.ok (Fl.ret r) a))=_;rw[iP (by rw[lM];lia),b,bB,bB,bB,JC,JB];rfl)
theorem Sx(h:Vl d)(S):zE 1 qI [.val d] S=#[.bl true,S,1]:=fO rfl (by
 show zT (AN [some d] S)=_;refine wC ?_;rcases h with⟨i,rfl,h0,h1⟩|⟨x,rfl,hx⟩
 .refine bG ?_;unfold eS;simp? [FU,show Pe [#[i,5]] S=.ok _ S from rfl,zAU,lt_int,dT0 (show(if i<0 then -i else i)<(10:Int) ^ 30 by split<;>lia)]
 .apply zA
  .unfold eS;simp? [show zE 1 gU [.val (.str x)] S=.ok _ S from fO rfl (by show zT _=_;rfl)];rfl
  unfold qH;simp? [Lj hx])
def Bi(d:a<=↑12)(c: ↑12 <=b)(S):zE 3 kM [#[ds,6],#[a,5],#[b,5]] S=#[.bl true,S,1]:=fO rfl (by show zT (qO [some _,some _,some _] S)=_;unfold qO qN;simp? [CP,Fc,le_int,dT0 d,dT0 c];rfl)
def YH(a b)(S):zE 3 kM [#[[a,b],6],#[2,5],#[2,5]] S=#[.bl true,S,1]:=Bi (by simp) (by simp) S
def Sy(c:0<=i)(a:i<b)(S):zE 2 wV [#[i,5],#[b,5]] S=#[.bl true,S,1]:=fO rfl (by show zT (wU [some _,some _] S)=_;unfold wU jP;simp? [FU,Fc,le_int,lt_int,dT0 c,dT0 a];rfl)
section
variable{ts:Tk}{ys:Ch}{vs:X0}(hT:Jy ts)(hY: ∀y∈ys,Nm y)(hV: ∀v∈vs,Vl v)
include hY hV in
def K1{d:MV}(h:TmP ys vs d)(S:Sto):zE 1 uL [.val d] S=#[.bl true,S,1]:=fO rfl (by
 show zT (uK [some d] S)=_;refine wC ?_;unfold uK;rcases h with⟨x,hx,rfl⟩|⟨v,hv,rfl⟩<;>apply zA
 .unfold mI;simp? [YH];rfl
 .refine bG ?_;unfold mK;simp? [JE,LA,FS,Lj (hY x hx)]
 .unfold mI;simp? [YH];rfl
 .apply zA
  .unfold mK;simp? [JE,LA,JD,fT,iF];rfl
  unfold tD;simp? [JE,LA,Ua,Nv,Sx (hV v hv)])
include hT hY hV in
theorem K2{a:Rw}(h:Ff ts ys vs a)(S:Sto):zE 2 uM [.val (zX a),.val (TT ts)] S=#[.bl true,S,1]:=fO rfl (by
 obtain⟨t,b⟩:=a;obtain⟨i,m,j,n⟩:=h;dsimp only at i m j n;obtain⟨k,rfl⟩: ∃k:Nat,t=k:=⟨t.toNat,by lia⟩
 have c:k<ts.length:=by lia
 have q:=hT.2.2 _ (ŀ c);have e:uY (ts.map tbl) k=some (tbl ts[k]):=JH (by rw[ó,gE c];rfl)
 have hw:(b.length:Int)=ts[k].1:=by
  rw[i];unfold Ei;rw[Ĉ,gE c];show((ts[k].1.toNat:Nat):Int)=ts[k].1
  lia
 have o:b.length<1000000:=by lia
 show zT (EN [#[[.int k,.tup b],3],some (TT ts),none] S)=_;refine wC (zA (ρ':=[#[[.int k,.tup b],3],some (TT ts),none]) (S':=S) ?_ (zA (ρ':=[#[[.int k,.tup b],3],some (TT ts),#[b.length,0]]) (S':=S) ?_ ?_))
 .unfold tE;simp? [YH,JE,CP,Sy j (show(k:Int)<(((ts.map tbl).length:Nat):Int) by rw[lM];lia)];rfl
 .unfold tF;simp? [JE,ix_tup (S:=S) e,show jV (.val (tbl ts[k])) #[0,5] S=.ok #[b.length,5] S by rw[hw];rfl]
 .have p:yD (zV 0) oG dX [none] [] b S=.ok (b.map λ_=>MV.bl true) S:=sQ (F:=λ_=>.bl true) (wQ _) λd e=>⟨[some d],rfl,rfl,by unfold dX;simp? [K1 hY hV (m d e) S]⟩
  unfold tG;simp? [LA,Bi (Int.le_refl _) (Int.le_refl _),Nv,oW,o,show vH 1 [] [#[[.int k,.tup b],3],some (TT ts),#[b.length,0]]=[none]from rfl,p,JC,JB])
def VH(h:SqM S m ds):zE 1 tL [.val m] S=#[.bl true,S,1]:=fO rfl (by
 have e:TN [.val m,#[[.typ "list",.typ "tuple"],6]] S=#[.bl true,S,1]:=by
  rcases h with rfl|⟨l,rfl,hS⟩
  .rfl
  .unfold TN;dsimp only;rw[show oE S _=some "list" by show(jO S _).map (λ_=>"list")=_;rw[pH hS];rfl];rfl
 show zT (CK [some m] S)=_;unfold CK AO;simp? [e];rfl)
theorem strs_map: ∀ hs ,strsOf #[hs,8]=some hs
 |[]=>rfl
 |h::hs=>by show(strsOf _).map _=_;rw[strs_map hs];rfl
def SqM.src(h:SqM S m ds): ∃q:Sr,srcOf S (.val m)=some q/\q.ds=ds/\stay q.gs S:=by
 rcases h with rfl|⟨l,rfl,hS⟩
 .exact(ZB _ rfl rfl (wQ _))
 .refine(ZB ⟨true,ds,[_]⟩ ?_ rfl (yN hS));unfold srcOf;dsimp only;rw[hS]
variable{S:Sto}{hm am:MV}{hs:Ch}{as:List Rw}
theorem K4(h:SqM S hm #[hs,8])(r:SqM S am #[as,9])(v:↑9)(w:as.length<=4)(hn:hs.Nodup)(z:hs.length<=4)(a: ∀y∈hs,y∈yP [] (wF as)):zE 2 uN [.val hm,.val am] S=#[.bl true,S,1]:=by
 refine h.itQ.a λp o e=>?_;have k:=Ud r v #[];generalize yP [] _=ks at k a;have h':=h.app (T:=[.lst #[ks,8]]);refine h'.src.b λq m n _=>?_;have i:yD (zV 0) oH dY [none,#[↑1]] p #[hs,8] _=.ok _ (S++[.lst #[ks,8]]):=sQ (F:=λ_=>.bl true) (o _) λd u=>(ZB ([some d,some _]) rfl rfl (by refine(mM.mp u).a λy s g=>?_;subst g;unfold dY;simp? [oA false (zL S _) (tR y) CQ,fT,iF,dT0 (CS.mpr (a y s))]))
 have c:=h'.len;rw[lM]at c;refine pG (T:=[.lst #[ks,8]]) rfl ?_ (Hx _ _) (λl=>by simp);show zT (EO [some hm,some am,none] S)=_;refine wC (zA (ρ':=[some hm,some am,#[↑1]]) (S':=S++[.lst #[ks,8]]) ?_ (zA (ρ':=[some hm,some am,#[↑1]]) (S':=S++[.lst #[ks,8]]) ?_ ?_))
 .unfold tH;exists 7,k
 .unfold tI;simp? [c,gt_int,dF0 (show¬(4:Int)<(hs.length:Int) by lia),e,show(hs.map MV.str).length<1000000 by rw[lM];lia,show vH 1 [2] [some hm,some am,some _]=[none,some _]from rfl,i,JC,JB,fT,iF,Ĩ]
 .have j:MK [.val hm] (S++[.lst #[ks,8]])=.ok #[(hs.length:Nat),5] (S++[.lst #[ks,8]]):=by unfold MK;dsimp only;rw[m];dsimp only;rw[n,strs_map];dsimp only;rw[iP #[],Qq hn]
  unfold tK;simp? [j,c,decide_true]
noncomputable abbrev Q5(b hm am:MV)(p a:Y0):Rho:=[some b,some hm,some am,p,a]
include hT hY hV in
theorem Lk{b:zA1}(c:stay b S): ∀(L:X0),(∀d∈L, ∃i a,d=.tup [i,zX a]/\Ff ts ys vs a)-> ∀(p a:Y0), ∃j m,yZ ↑23 gB b L (Q5 (TT ts) hm am p a) S=#[Q5 (TT ts) hm am j m,S,0]
 |[],_,p,a=>⟨p,a,rfl⟩
 |d::L,hL,p,a=>by obtain⟨i,x,rfl,q⟩:=hL d mF0;obtain⟨j,m,k⟩:=Lk c L (λe h=>hL e (mO _ h)) (some i) (some (zX x));refine⟨j,m,?_⟩;rw[zW (ρ':=Q5 (TT ts) hm am (some i) (some (zX x))) rfl ?_ c,k];unfold gB bN;simp? [K2 hT hY hV q,Ĩ,fT,iF]
include hT hY hV in
theorem JP(h:SqM S hm #[hs,8])(c:SqM S am #[as,9])(C: ∀a∈as,Ff ts ys vs a)(i:↑9)(E:1<=as.length)(A:as.length<=4)(hn:hs.Nodup)(B:hs.length<=4)(j: ∀y∈hs,y∈yP [] (wF as)):
  xF [TT ts,hm,am] S=.ok #[[.tup #[hs,8],.tup #[as,9]],6] S:=by
 obtain⟨q,v,z,w⟩:=c.src;obtain⟨p,s,k⟩:=Lk hT hY hV (hm:=hm) (am:=am) w (SZ #[as,9]) (λd r=>by unfold SZ at r;obtain⟨q,u,rfl⟩:=mM.mp r;have D:=(List.mem_zipIdx u).2.2;obtain⟨a,c,e⟩:=mM.mp (show q.1∈as.map zX by rw[D];exact ŀ _);exact⟨_,a,by rw[e],C a c⟩) none none;have n:=c.len;rw[lM]at n
 have o: ∀{m:MV}{ds:X0},SqM S m ds->kG [.val m] S=.ok #[ds,6] S:=λh=>by
  rcases h with rfl|⟨l,rfl,hS⟩
  .rfl
  .exact EU hS
 show zT (oI (Q5 (TT ts) hm am none none) S)=_;refine wC (zA (ρ':=Q5 (TT ts) hm am none none) (S':=S) ?_ (zA (ρ':=Q5 (TT ts) hm am p s) (S':=S) ?_ (zA (ρ':=Q5 (TT ts) hm am p s) (S':=S) ?_ ?_)))
 .unfold aO;simp? [VH c,Ĩ,fT,iF]
 .unfold aP;simp? [show Tv [.val am] S=.ok ⟨SZ #[as,9],q.gs⟩ S by unfold Tv;dsimp only;rw[v];dsimp only;rw[z]];exact k
 .unfold aQ;simp? [n,Fc,le_int,dT0 (show(1:Int)<=(as.length:Nat) by lia),dT0 (show((as.length:Nat):Int)<=4 by lia),VH h,K4 h c i A hn B j,Ĩ,fT,iF]
 .unfold aR;simp? [o h,o c]
end
def look_cons(q)(E)(k):look (q::E) k=if q.1=k then some q.2 else look E k:=by
 unfold look;rw[find?_cons];by_cases h:q.1=k
 .rw[dT0 h,iP h];rfl
 .rw[dF0 h,iN h]
theorem look_at: ∀{E},(E.map (·.1)).Nodup-> ∀p∈E,look E p.1=some p.2
 |q::E,hn,p,hp=>by
  rw[å,nodup_cons]at hn;rw[look_cons];rcases mC.mp hp with rfl|hp
  .rw[iP rfl]
  .rw[iN λz=>hn.1 (by rw[z];exact Ą hp),look_at hn.2 p hp]
theorem Bj(hn:(E.map (·.1)).Nodup)(h:look E k=some d):putK E k d=E:=by
 unfold putK;rw[iP (by rw[h];rfl)];refine(Ė λp a=>?_).trans (List.map_id E);split
 .rename_i e;have:=look_at hn p a;rw[e,h]at this;rw[ä this];rfl
 .rfl
def zBH(S):BG (.val (.str KD)) (.val (.str IS)) S=#[.bl false,S,1]:=by rw[eq_str,dF0 ↑11]
section
theorem zBI(h:S[l]? =#[E,7])(a:pT E)(x)(c):CD #[l,1] [.val (.str x),.val c] S=#[(look E (.str x)).getD c,S,1]:=by unfold CD;rw[vS h a];refine(iP rfl).trans ?_;cases look E _<;>rfl
theorem Sz(h:S[l]? =#[E,7])(a:pT E)(hz:E.length<1000)(x)(c)(ρ):CC #[l,1] (.val (.str x)) c ρ S=.ok ρ (S.set l (.dic (putK E (.str x) c))):=by unfold CC;rw[vS h a];exact iP ⟨rfl,by lia⟩
end
noncomputable abbrev GO(T C:X0)(l n:Nat)(k w t:Y0):Rho:=[#[T,3],#[C,3],#[l],#[n],k,w,t]
section
theorem Ta{i:Nat}(hT:T[i]? =some t)(I:C[i]? =some c)(D:xK t)(q:VS c)(m:pT E)(hn:(E.map (·.1)).Nodup)(hz:E.length<1000)(w o):
  (∃F G B,(∀ts cs,xT (t::ts) (c::cs) E=xT ts cs F)/\pT F/\(F.map (·.1)).Nodup/\F.length<=E.length+1/\yU (GO T C l ↑1 #[i,0] w o) ↑39=#[GO T C l ↑1 #[i,0] G B,S++[.dic F],0])\/
  ((∀ts cs,xT (t::ts) (c::cs) E=none)/\yU (GO T C l ↑1 #[i,0] w o) ↑39=.ok (.ret (.val .non)) ↑39):=by
 have r:(S++[.dic E])[↑1]? =#[E,7]:=zL _ _;have n: ∀Z,jV #[C,6] #[i,5] Z=#[c,Z,1]:=λZ=>ix_tup (JH I);have H: ∀{a b:MV},t=.tup [a,b]->gR (GO T C l ↑1 #[i,0] w o) ↑39=.ok _ ↑39:=λh=>by unfold gR;simp? [ix_tup (JH hT),h,rG];rfl
 have s:=eK q;unfold yU;rcases D with⟨x,rfl⟩|⟨v,hv,rfl⟩<;>refine qq (zD (H rfl)) ?_
 .have A:VS ((look E (.str x)).getD c):=by
   cases z:look E (.str x)with
   |none=>exact q
   |some d=>exact CY m z
  have k:xA (GO T C l ↑1 #[i,0] #[KD,4] #[x,4]) ↑39=if(!decide ((look E (.str x)).getD c=c))=true then .ok (.ret (.val .non)) ↑39 else #[GO T C l ↑1 #[i,0] #[KD,4] #[x,4],S++[.dic E],0]:=by unfold xA;simp? [zBH,FS,fT,iF,CZ r m,n,zBI r m,DA (eK A).1 s.1 (eK A).2]
  by_cases j:(look E (.str x)).getD c=c
  .rw[dT0 j,Ĩ,iN xF0]at k;refine .inl (XV (putK E (.str x) c) (#[KD,4]) (#[x,4]) (λts cs=>?_) ?_ ?_ ?_ (zA k ?_))
   .rw[rK]
    cases z:look E (.str x)with
    |none=>rw[tX z]
    |some d=>
     rw[z]at j;cases (show d=c from j);refine qq (Bj hn z) ?_;exact iP rfl
   .exact Bd m (p:=(.str x,c)) ⟨⟨x,rfl⟩,q⟩
   .cases z:look E (.str x)with
    |none=>
     rw[tX z,ñ,ĥ];exact⟨hn,by simp,λa J b u e=>by refine(mM.mp J).a λp K g=>?_;subst g;rw[List.map_singleton,mS]at u;exact HC z p K (e.trans u)⟩
    |some d=>
     rw[z]at j;cases (show d=c from j);rw[Bj hn z];exact hn
   .unfold putK;split<;>simp
   .unfold gT;simp? [FS,n,rG,Sz r m hz,wL]
  .rw[dF0 j,Bool.not_false,iP rfl]at k;refine .inr ⟨λts cs=>?_,bG k⟩;rw[rK]
   cases z:look E (.str x)with
   |none=>exact absurd (by rw[z];rfl) j
   |some d=>exact iN λy=>j (by rw[z];exact y)
 .have k:xA (GO T C l ↑1 #[i,0] #[IS,4] (some v)) ↑39=if(!decide (v=c))=true then .ok (.ret (.val .non)) ↑39 else #[GO T C l ↑1 #[i,0] #[IS,4] (some v),S++[.dic E],0]:=by unfold xA;simp? [Ua,JD,fT,iF,n,DA (eK hv).1 s.1 (eK hv).2];cases decide (v=c)<;>rfl
  by_cases j:v=c
  .rw[dT0 j,Ĩ,iN xF0]at k;refine .inl (XV E (#[IS,4]) (some v) (λts cs=>by rw[EY,iP j]) m hn (by lia) (zA k ?_));unfold gT;exists 7,JD,fT,iF
  .rw[dF0 j,Bool.not_false,iP rfl]at k;exact .inr ⟨λts cs=>by rw[EY,iN j],bG k⟩
theorem Ll: ∀ ts cs pt j  E  a b c ,T=pt++ts->C=j++cs->pt.length=↑44->ts.length=cs.length->(∀t∈ts,xK t)->(∀c∈cs,VS c)->pT E->(E.map (·.1)).Nodup->E.length+ts.length<1000->
  (∃F G z B,xT ts cs E=some F/\yZ (zV 4) yU [] ((List.range' ↑44 cs.length).map eH) (GO T C l ↑1 a b c) ↑39=#[GO T C l ↑1 G z B,S++[.dic F],0])\/
  (xT ts cs E=none/\ ∃q,yZ (zV 4) yU [] ((List.range' ↑44 cs.length).map eH) (GO T C l ↑1 a b c) ↑39=.ok (.ret (.val .non)) (S++[.dic q]))
 |[],[],_,_,E,a,b,c,_,_,_,_,_,_,_,_,_=>.inl (YQ E a b c ⟨rfl,rfl⟩)
 |t::ts,d::cs,pt,j,E,a,b,c,e1,e2,e3,e4,ht,hc,hE,hn,hz=>by
  rw[lC]at hz;rw[lC,List.range'_succ,å];have m:T[↑44]? =some t:=by rw[e1, <-e3];simp
  have i:C[↑44]? =some d:=by rw[e2];simp
  rcases Ta m i (ht t (.head _)) (hc d (.head _)) hE hn #[] b c with⟨F,w,o,f1,f2,f3,f4,f5⟩|⟨f1,f5⟩
  .rw[zW rfl f5 (wQ _),f1];have:=Ll (S:=S) (l:=l) ts cs (pt++[t]) (j++[d]) F #[↑44,0] w o (show T=_ by rw[e1];simp) (show C=_ by rw[e2];simp) (by simp[e3]) (Nat.succ.inj e4) (λu e=>ht u (.tail _ e)) (λu e=>hc u (.tail _ e)) f2 f3 #[];rw[lA]at this;exact this
  .exact .inr ⟨f1 ts cs,E,ZM rfl f5⟩
 |[],_::_,_,_,_,_,_,_,_,_,_,h,_,_,_,_,_=>nomatch h
 |_::_,[],_,_,_,_,_,_,_,_,_,h,_,_,_,_,_=>nomatch h
theorem zBJ(i:S[l]? =#[E,7])(hw:↑37=C.length)(j: ∀t∈T,xK t)(k: ∀c∈C,VS c)(e:pT E)(hn:(E.map (·.1)).Nodup)(hz:E.length+↑37<900):
  zE 3 mY [#[T,6],#[C,6],#[l,1]] S=match xT T C E with |some F=>.ok #[S.length,1] (S++[.dic F])|none=>#[.non,S,1]:=by
 have h:nT [#[T,3],#[C,3],#[l],none,none,none,none] S=#[GO T C l ↑1 none none none,S++[.dic E],0]:=by unfold nT;exists 7,Ko i e
 have d:nU (GO T C l ↑1 none none none) ↑39=yZ (zV 4) yU [] ((List.range' 0 C.length).map eH) (GO T C l ↑1 none none none) ↑39:=by unfold nU;simp? [CP,Kc (show C.length<=1000 by lia),List.range_eq_range']
 rcases (Ll (S:=S) (l:=l) T C [] [] E none none none rfl rfl rfl hw j k e hn #[])with⟨F,a,b,c,h1,h2⟩|⟨h1,E',h2⟩<;>rw[h1]<;>dsimp only
 .exact UN rfl (wC (zA h (zA (d.trans h2) rfl)))
 .exact pG rfl (wC (zA h (bG (d.trans h2)))) (WZ _) (λl=>by simp)
end
theorem K5(h: ∀d∈k,VS d\/d=.non):keyOk (.tup k)=true:=by
 have g: ∀k:List MV,(∀d∈k,VS d\/d=.non)-> ∃a,kD k=some a/\rO a<=0:=λk=>by
  induction k with
  |nil=>exact λ_=>⟨[],pI,by rw[rO];exact à _⟩
  |cons d k ih=>
   intro h;refine(ih λe c=>h e (.tail _ c)).a λa b j=>?_
   obtain⟨n,m,o⟩: ∃n,yY d=some n/\eM n<=0:=by
    rcases h d (.head _)with(⟨i,rfl⟩|⟨x,rfl⟩)|rfl
    .exact⟨_,aB i,by rw[eM];exact à _⟩
    .exact⟨_,aC x,by rw[eM];exact à _⟩
    .exact⟨_,by rw[yY],by rw[eM];exact à _⟩
   exact⟨n::a,by rw[cW,m,b];rfl,by rw[qC];omega⟩
 refine(g k h).a λa b j=>?_;unfold keyOk;rw[aD,b];show(sR _&&decide _)=true;rw[nV,dT0 #[]];rfl
def Lm(nm:Ch)(a:List (Nat×Ev)):Ev:=a.map λp=>(.tup (yR nm p.2),.loc p.1)
def zBK(nm)(Pl)(p): ∃j,putK (Lm nm Pl) (.tup (yR nm p.2)) (.loc p.1)=Lm nm j/\(∀x∈j,x∈Pl\/x=p)/\(∀q,q∈Pl\/q=p-> ∃x∈j,yR nm x.2=yR nm q.2)/\↑44<=Pl.length+1:=by
 unfold putK;by_cases h:(look (Lm nm Pl) (.tup (yR nm p.2))).isSome=true
 .rw[iP h];refine⟨Pl.map λq=>if yR nm q.2=yR nm p.2 then p else q,?_,λx b=>?_,λq a=>?_,by simp⟩
  .unfold Lm;rw[ħ,ħ];refine Ė λq a=>?_;show(if MV.tup _=.tup _ then(MV.tup _,MV.loc p.1)else _)=(MV.tup (yR nm (if yR nm q.2=yR nm p.2 then p else q).2),MV.loc (if yR nm q.2=yR nm p.2 then p else q).1)
   by_cases e:yR nm q.2=yR nm p.2
   .rw[iP (by rw[e]),iP e,e]
   .rw[iN (λz=>e (MV.tup.inj z)),iN e]
  .refine(mM.mp b).a λq a g=>?_;subst g;split
   .exact .inr rfl
   .exact .inl a
  .rcases a with a|rfl
   .refine⟨_,Ą a,?_⟩;split
    .rename_i e;exact e.symm
    .rfl
   .refine(mM.mp (JF h)).a λk c e=>?_;refine(mM.mp c).a λi d i=>?_;subst i;exact Z3 _ (Ą d) (by rw[iP (MV.tup.inj e)])
 .rw[iN h];exact⟨Pl++[p],by simp[Lm],λx b=>by simpa using b,λq a=>(Z3 q (by simpa using a) rfl),by simp⟩
structure MF(B:Sto)(nm:Ch)(Pl:List (Nat×Ev))(Z:Sto):Prop where
 ex: ∃T,Z=B++.dic (Lm nm Pl)::T
 at': ∀p∈Pl,↑5<p.1/\Z[p.1]? =#[p.2,7]
def Gt(L:List Rw)(a:Rw)(E W:Ev):Prop:= ∃r∈L,r.1=a.1/\xT a.2 r.2 E=some W
section
def MF.old(J:MF B nm Pl Z){l:Nat}(h:B[l]? =some o):Z[l]? =some o:=by obtain⟨T,rfl⟩:=J.ex;exact zU h
def MF.dic(J:MF B nm Pl Z):jW Z #[↑5,1]=some (↑5,Lm nm Pl):=by obtain⟨T,rfl⟩:=J.ex;unfold jW;dsimp only;rw[lW];dsimp only;rw[iP (ÿ.mpr λp a=>by refine(mM.mp a).a λq _ b=>?_;subst b;rfl)]
theorem MF.put(J:MF B nm Pl Z)(o:pT W)(n:Pl.length<1000000): ∃j u,(∀m,BU #[↑5,1] #[yR nm W,6] (.loc ↑17) m (Z++[.dic W])=.ok m u)/\MF B nm j u/\(∀x∈j,x∈Pl\/x.2=W)/\(∀V,(∃q∈Pl,yR nm q.2=yR nm V)\/V=W-> ∃x∈j,yR nm x.2=yR nm V)/\↑44<=Pl.length+1:=by
 refine(zBK nm Pl (↑17,W)).elim λj g=>g.h λr c k s=>?_;obtain⟨T,e⟩:=J.ex;have i:MF B nm Pl (Z++[.dic W]):=⟨⟨T++[.dic W],by rw[e];simp⟩,λp a=>⟨(J.at' p a).1,zU (J.at' p a).2⟩⟩
 refine XD j ((Z++[MO.dic W]).set ↑5 (.dic (Lm nm j))) (λm=>?_) ⟨⟨T++[.dic W],?_⟩,λp a=>?_⟩ (λx b=>(c x b).imp id λz=>by rw[z]) (λV hV=>?_) s
 .unfold BU;rw[i.dic];dsimp only
  rw[iP ⟨K5 λd v=>by
   refine(mM.mp v).a λx _ w=>?_;subst w;unfold vD
   cases z:look W _ with
   |none=>exact .inr rfl
   |some d=>exact .inl (CY o z),by unfold Lm;rw[lM];exact n⟩,r]
 .rw[e,aA,ĩ,QQ]
 .have:↑5<p.1/\(Z++[.dic W])[p.1]? =#[p.2,7]:=by
   rcases c p a with h|rfl
   .exact i.at' p h
   .exact⟨by rw[e,lA,lC];lia,zL _ _⟩
  exact⟨this.1,by rw[Ġ #[]];exact this.2⟩
 .rcases hV with⟨q,hq,z⟩|rfl
  .refine(k q (.inl hq)).a λx b y=>?_;exact⟨x,b,y.trans z⟩
  .exact k _ (.inr rfl)
noncomputable abbrev FR(lr:Nat)(q H A:MV)(ln a:Nat)(t:Int)(b:X0)(c:Nat)(o:List (Option MV)):Rho:=#[lr]::some q::some H::some A::#[ln]::#[a]::#[t,0]::#[b,3]::#[c]::o
variable{rows:List Rw}
theorem Uh(hR:B[lr]? =#[rows.map zX,2])(hn:B[ln]? =#[nm.map MV.str,2])(nl:nm.length<1000)(F:(∀d∈a.2,xK d)/\a.2.length<=4)(D:B[e]? =#[E,7])(v:pT E)(C:(E.map (·.1)).Nodup)(hz:E.length<=100)(f g): ∀ L  m  Z  u c w ,(∀r∈L,(∀d∈r.2,VS d)/\(r.1=a.1->a.2.length=r.2.length))->MF B nm m Z->m.length+L.length<=1000000->
  ∃j I Y c' N,yZ (iB 2 (zB (zV 10) (zB (zV 11) zY))) cC [(lr,rows.map zX)] #[L,9] (FR lr q H A ln ls a.1 a.2 ↑5 [#[e],u,c,w,f,g]) Z=#[FR lr q H A ln ls a.1 a.2 ↑5 [#[e],Y,c',N,f,g],I,0]/\MF B nm j I/\(∀x∈j,x∈m\/Gt L a E x.2)/\(∀V,(∃x∈m,yR nm x.2=yR nm V)\/Gt L a E V-> ∃x∈j,yR nm x.2=yR nm V)/\↑44<=m.length+L.length
 |[],m,Z,u,c,w,_,J,_=>(WX m Z u c w ⟨rfl,J,λx G=>.inl G,λV hV=>(by rcases hV with h|⟨r,h,_⟩;exact h;cases h),à _⟩)
 |r::L,m,Z,u,c,w,hL,J,hl=>by
  rw[lC]at hl;refine((show ∃j I N,cC (FR lr q H A ln ls a.1 a.2 ↑5 [#[e],#[r.1,0],#[r.2,3],w,f,g]) Z=#[FR lr q H A ln ls a.1 a.2 ↑5 [#[e],#[r.1,0],#[r.2,3],N,f,g],I,0]/\MF B nm j I/\(∀x∈j,x∈m\/Gt [r] a E x.2)/\(∀V,(∃x∈m,yR nm x.2=yR nm V)\/Gt [r] a E V-> ∃x∈j,yR nm x.2=yR nm V)/\↑44<=m.length+1 by
    have i:=λb=>zBJ (J.old D) ((hL r (.head _)).2 b) F.1 (hL r (.head _)).1 v C #[];by_cases o: ∃W,r.1=a.1/\xT a.2 r.2 E=some W
    .rw[31];refine o.a λW b z=>?_;have i:=i b;rw[z]at i;have p:=uW _ _ _ _ z v (hL r (.head _)).1;refine(J.put p #[]).l λj I K h2 h3 h4 h5=>?_;have k:(Z++[.dic W])[↑17]? =#[W,7]:=zL _ _;have n:(Z++[.dic W])[ln]? =some _:=zU (J.old hn);have hc:yD (zV 0) dG jF [none,some _] [_] _ _=.ok (nm.map (vD W)) _:=fV (yN n) λx G=>(ZB ([#[x,4],#[↑17]]) rfl rfl (by unfold jF;simp? [CZ k p,Si k p];rfl))
     refine bw ?_;refine XV j I (#[↑17]) (zA rfl (zA (ρ':=FR lr q H A ln ls a.1 a.2 ↑5 [#[e],#[r.1,0],#[r.2,3],#[↑17],f,g]) (S':=Z++[.dic W]) ?_ ?_)) h2 (λx G=>(h3 x G).imp id λy=>(ZB r (.head _) b (by rw[y,z]))) (λV hV=>h4 V (hV.imp id λ⟨s,hs,_,y⟩=>by rw[mS.mp hs,z]at y;exact(ä y).symm)) h5
     .unfold jG;exists 7,dT0 b,i
     .unfold jH;simp? [show BH #[↑17,1] (.val .non) _=.ok _ _ from rfl,rG,xX n,lM,show nm.length<1000000 by lia,show vH 1 [12] (FR lr q H A ln ls a.1 a.2 ↑5 [#[e],#[r.1,0],#[r.2,3],some _,f,g])=[none,some _]from rfl,hc,fW,show MV.tup (nm.map (vD W))=.tup (yR nm W)from rfl,K]
    .refine(XV m Z (some .non) (zA rfl (zA (ρ':=FR lr q H A ln ls a.1 a.2 ↑5 [#[e],#[r.1,0],#[r.2,3],some .non,f,g]) (S':=Z) ?_ ?_)) J (λx G=>.inl G) (λV hV=>hV.elim id λ⟨s,hs,y⟩=>absurd ⟨V,by rw[mS.mp hs]at y;exact y⟩ o) (by lia))
     .unfold jG;by_cases b:r.1=a.1
      .have i:=i b;rw[show xT a.2 r.2 E=none from Option.eq_none_iff_forall_ne_some.mpr λW z=>o ⟨W,b,z⟩]at i;exists 7,dT0 b,i
      .simp? [dF0 b,fT,iF]
     .unfold jH;exists 7,show BH (.val .non) (.val .non) Z=.ok _ Z from rfl,fT,iF)).i λP1 T Q e1 J1 i1 O l1=>?_;obtain⟨X,Z2,u2,c2,S,P,J2,M,U,l2⟩:=Uh hR hn nl F D v C hz f g L P1 T _ _ Q (λs hs=>hL s (.tail _ hs)) J1 #[];refine WX X Z2 u2 c2 S ⟨?_,J2,λx G=>?_,λV hV=>U V ?_,by rw[lC];lia⟩
  .rw[å,zW rfl e1 (yN (J1.old hR)),P]
  .rcases M x G with h|⟨s,hs,h⟩
   .exact(i1 x h).imp id λ⟨s,hs,h⟩=>⟨s,by rw[mS.mp hs];exact .head _,h⟩
   .exact .inr ⟨s,.tail _ hs,h⟩
  .rcases hV with h|⟨s,hs,h⟩
   .exact .inl (O V (.inl h))
   .rcases mC.mp hs with rfl|hs
    .exact .inl (O V (.inr (Z3 s (.head _) h)))
    .exact .inr (Z3 s hs h)
theorem Ln(hR:B[lr]? =#[rows.map zX,2])(hn:B[ln]? =#[nm.map MV.str,2])(nl:nm.length<1000)(i:(∀d∈a.2,xK d)/\a.2.length<=4)(e: ∀r∈rows,(∀d∈r.2,VS d)/\(r.1=a.1->a.2.length=r.2.length))(hs:B[ls]? =#[all,2])(f g): ∀(z j:List (Nat×Ev)) Z  v u c w ,(∀p∈z,B[p.1]? =#[p.2,7]/\pT p.2/\(p.2.map (·.1)).Nodup/\p.2.length<=100)->MF B nm j Z->↑44+z.length * rows.length<=1000000->
  ∃m I O Q c' N,yZ (zV 9) cE [(ls,all)] (z.map λp=>.loc p.1) (FR lr q H A ln ls a.1 a.2 ↑5 [v,u,c,w,f,g]) Z=#[FR lr q H A ln ls a.1 a.2 ↑5 [O,Q,c',N,f,g],I,0]/\MF B nm m I/\(∀x∈m,x∈j\/ ∃p∈z,Gt rows a p.2 x.2)/\(∀V,(∃x∈j,yR nm x.2=yR nm V)\/(∃p∈z,Gt rows a p.2 V)-> ∃x∈m,yR nm x.2=yR nm V)/\m.length<=↑44+z.length * rows.length
 |[],j,Z,v,u,c,w,_,J,_=>(WW j Z v u c w ⟨rfl,J,λx G=>.inl G,λV hV=>(by rcases hV with h|⟨r,h,_⟩;exact h;cases h),by simp⟩)
 |p::z,j,Z,v,u,c,w,hQ,J,hl=>by
  rw[lC]at hl;refine(hQ p (.head _)).h λL T h3 h4=>?_;obtain⟨P1,D,M,F,o,S,J1,X,b,l1⟩:=Uh hR hn nl i L T h3 h4 f g rows j Z u c w e J #[];obtain⟨K,Y,n,U,P,C,y,W,k,E,l2⟩:=Ln hR hn nl i e hs f g z P1 D _ M F o (λs hs=>hQ s (.tail _ hs)) J1 #[];refine WW K Y n U P C ⟨?_,W,λx G=>?_,λV hV=>E V ?_,by rw[lC];lia⟩
  .rw[å,zW rfl ?_ (yN (J1.old hs)),y];unfold cE dH;exists 7,xX (J.old hR),S
  .rcases k x G with h|⟨s,hs,h⟩
   .exact(X x h).imp id λh=>⟨p,.head _,h⟩
   .exact .inr ⟨s,.tail _ hs,h⟩
  .rcases hV with h|⟨s,hs,h⟩
   .exact .inl (b V (.inl h))
   .rcases mC.mp hs with rfl|hs
    .exact .inl (b V (.inr h))
    .exact .inr ⟨s,hs,h⟩
end
theorem Tc(I:FI rows done (wF done) Es)(S: ∀E∈Es,(E.map (·.1)).Nodup)(F: ∀t∈a.2,xK t)(D: ∀r∈rows,(∀d∈r.2,VS d)/\(r.1=a.1->a.2.length=r.2.length))(B: ∀x∈wF (done++[a]),x∈nm)(v: ∀W∈Ws, ∃E∈Es,Gt rows a E W)(Q: ∀V,(∃E∈Es,Gt rows a E V)-> ∃W∈Ws,yR nm W=yR nm V):
  FI rows (done++[a]) (wF (done++[a])) Ws/\ ∀W∈Ws,(W.map (·.1)).Nodup:=by
 have u: ∀x,x∈wF (done++[a])↔x∈wF done\/ ∃t∈a.2,vn t=some x:=λx=>by simp[wF]
 have i: ∀E∈Es, ∀W,Gt rows a E W->(pT W/\(W.map (·.1)).Nodup/\ ∀x,look W _≠none↔x∈wF _)/\_/\Mt rows a _:=λE c W ⟨r,m,e,z⟩=>by
  refine V0 λU=>?_;have G:=(D r m).2 e;obtain⟨P,H⟩:=QV _ _ _ _ z #[];obtain⟨J,N⟩:=UU _ _ _ _ z (S E c);obtain⟨C,w⟩:=pV _ _ _ _ z G F;refine U ?_;refine⟨⟨uW _ _ _ _ z (I.dom E c).1 (D r m).1,J,λx=>⟨λh=>?_,λh=>?_⟩⟩,C,?_⟩
  .obtain⟨d,j⟩:=Ļ.mp h;refine(UT j).a λp A e=>?_;rw[u];rcases N p A with A|⟨t,s,y,hy,e'⟩
   .exact .inl (((I.dom E c).2 x).mp λz=>HC z p A e)
   .rw[e]at e';cases e';exact .inr ⟨t,s,hy⟩
  .rcases (u x).mp h with h|⟨t,s,e⟩
   .exact P _ (((I.dom E c).2 x).mpr h)
   .exact H t s x e
  .unfold Mt;rw[<-w, <-e];exact m
 refine⟨⟨λW n=>?_,λW n=>?_,λσ q=>?_⟩,λW n=>?_⟩
 .obtain⟨E,c,h⟩:=v W n;exact⟨(i E c W h).1.1,(i E c W h).1.2.2⟩
 .refine V0 λY=>?_;refine(v W n).a λE c h=>?_;refine(i E c W h).e λg M L=>?_;refine g.e λ_ _ T=>?_;refine Y ?_;refine Z3 (vD W) (λb k=>?_) (λ_ _=>rfl);rcases ê.mp k with k|k
  .refine(I.snd E c).a λσ C w=>?_;refine YE (λt s x e=>?_) (C b k);have o:=kC.mpr ⟨b,k,t,s,e⟩;rw[<-w x o];obtain⟨d,j⟩:=Ļ.mp (((I.dom E c).2 x).mpr o);rw[jR j,jR (M x d j)]
  .rw[mS.mp k];exact L
 .refine(I.cmp σ λb k=>q b (ă _ k)).a λE c h=>?_;refine(tY σ a.2 E (λx d j=>by rw[<-h x (((I.dom E c).2 x).mp (by rw[j];simp)),jR j]) F).a λV O K=>?_;have hV:Gt rows a E V:=(ZB _ (q a (by simp)) rfl O)
  refine(Q V ⟨E,c,hV⟩).a λW n e=>?_;refine⟨W,n,λx o=>?_⟩;have:=List.map_inj_left.mp e x (B x o);obtain⟨d,j⟩:=Ļ.mp (((i E c V hV).1.2.2 x).mpr o);rw[this,jR j,K x d j]
 .obtain⟨E,c,h⟩:=v W n;exact(i E c W h).1.2.1
structure NI(S:Sto)(rows done:List Rw)(Qs:List (Nat×Ev))(ls:Nat)(Z:Sto):Prop where
 ex: ∃T,Z=S++T
 ls:Z[ls]? =some (.lst (Qs.map λp=>.loc p.1))
 at': ∀p∈Qs,Z[p.1]? =#[p.2,7]
 I:FI rows done (wF done) (Qs.map (·.2))
 nd: ∀p∈Qs,(p.2.map (·.1)).Nodup/\p.2.length<=4 * done.length
 ln:Qs.length<=30 ^ done.length
noncomputable abbrev F5(lr:Nat)(q H A:MV)(ln a:Nat)(o:List (Option MV)):Rho:=#[lr]::some q::some H::some A::#[ln]::#[a]::o
section
variable{S:Sto}{lr ln:Nat}{rows:List Rw}{nm:Ch}(hR:S[lr]? =#[rows.map zX,2])(hn:S[ln]? =#[nm.map MV.str,2])(nl:nm.length<1000)(rl:rows.length<=30)(hv: ∀r∈rows, ∀d∈r.2,VS d)
include hR hn nl rl hv
theorem Td(M:(∀d∈a.2,xK d)/\a.2.length<=4)(hw:↑74)(hd:done.length<4)(C: ∀x∈wF (done++[a]),x∈nm)(N:NI S rows done Qs ls Z)(m v u c w):
  ∃Q j U m' G L O B,cF (F5 lr q H A ln ls [#[a.1,0],#[a.2,3],m,v,u,c,w,none,none]) Z=#[F5 lr q H A ln j [#[a.1,0],#[a.2,3],m',G,L,O,B,none,none],U,0]/\NI S rows (done++[a]) Q j U:=by
 have F: ∀{l:Nat}{o:MO},S[l]? =some o->Z[l]? =some o:=λh=>by obtain⟨T,rfl⟩:=N.ex;exact zU h
 have K: ∀r∈rows,_/\_:=λr h=>⟨hv r h,hw r h⟩
 have hb:=mul_le_mul N.ln rl;have b:30 ^ _<=30 ^ 4:=Nat.pow_le_pow_right ↑11 hd;obtain⟨n,k,G,L,O,B,e,J,s,D,P⟩:=Ln (F hR) (F hn) nl M K N.ls none none Qs [] _ v u c w (λp b=>⟨N.at' p b,(N.I.dom p.2 (Ą b)).1,(N.nd p b).1,by have:=(N.nd p b).2;lia⟩) ⟨⟨[],rfl⟩,nofun⟩ (by simp only[ø];lia);simp only[ø,Ă,nM,false_or,false_and,exists_false]at P s D
 obtain⟨f1,f2⟩:=Tc N.I (λE y=>by refine(mM.mp y).a λp b g=>?_;subst g;exact(N.nd p b).1) M.1 K C (λW hW=>by
  obtain⟨x,i,rfl⟩:=mM.mp hW;refine(s x i).a λp b h=>?_;exact⟨_,Ą b,h⟩) (λV ⟨E,y,h⟩=>by
  refine(mM.mp y).a λp b W=>?_;subst W;refine(D V ⟨p,b,h⟩).a λx i h=>?_;exact Z3 _ (Ą i) h)
 refine⟨n,k.length,k++[.lst _],#[↑17],G,L,O,B,zA (ρ':=FR lr q H A ln ls a.1 a.2 ↑17 [v,u,c,w,none,none]) (S':=Z++[.dic []]) ?_ (zA (ρ':=FR lr q H A ln ls a.1 a.2 ↑17 [G,L,O,B,none,none]) (S':=k) ?_ ?_),?_,zL _ _,λp b=>zU (J.at' p b).2,f1,λp b=>⟨f2 _ (Ą b),?_⟩,?_⟩
 .unfold dI;exists 7,BR
 .unfold dL;exists 7,xX (zU N.ls),e
 .unfold dM;simp? [show N4 _ k=#[(n.map λp=>.loc p.1),k,2] by unfold N4;rw[J.dic];dsimp only;rw[Lm,ħ];rfl]
 .obtain⟨T,e1⟩:=N.ex;obtain⟨T1,Y⟩:=J.ex;exact⟨T++.dic (Lm nm n)::T1++[.lst (n.map λp=>.loc p.1)],by rw[Y,e1];simp⟩
 .obtain⟨x,i,r,X,_,z⟩:=s p b;have h1:=HD _ _ _ _ z;have h2:=(N.nd x i).2;rw[lA,lS]
  lia
 .rw[lA];exact ô P hb
theorem Lo(n:↑9)(hw: ∀b∈as, ∀r∈rows,r.1=b.1->b.2.length=r.2.length)(k:as.length<=4)(h: ∀x∈wF as,x∈nm): ∀ rest j ,as=j++rest-> ∀{G}{z}{Z},NI S rows j G z Z-> ∀t y m v u c w:Option MV,
  ∃I B J t' y' T Q U c' O,yZ (iB 2 (zB (zV 6) (zB (zV 7) zY))) cF [] #[rest,9] (F5 lr q H A ln z [t,y,m,v,u,c,w,none,none]) Z=#[F5 lr q H A ln B [t',y',T,Q,U,c',O,none,none],J,0]/\NI S rows as I B J
 |[],j,e,G,z,Z,N,t,y,m,v,u,c,w=>(Wf G z Z t y m v u c w ⟨rfl,by rw[e,aN];exact N⟩)
 |a::rest,j,e,G,z,Z,N,t,y,m,v,u,c,w=>by
  rw[20];have L:a∈as:=by rw[e];simp
  obtain⟨Q1,s1,Z1,o,P,X,M,C,e1,N1⟩:=Td hR hn nl rl hv (n a L) (hw a L) (by rw[e,lA,lC]at k;lia) (λx i=>h x (by rw[e];simp[wF]at i ⊢; exact i.imp id .inl)) N m v u c w;obtain⟨Y,F,Z2,W,K,m2,s,u2,c2,E,D,p⟩:=Lo n hw k h rest _ (by rw[e];simp) N1 _ _ o P X M C;refine g ?_;exact Wf Y F Z2 W K m2 s u2 c2 E ⟨by rw[å,zW rfl e1 (wQ _),D],p⟩
end
theorem Te{R:zA3}(neg)(c:S[l]? =#[R.map .tup,2])(hR: ∀t∈R, ∀d∈t,VS d)(b: ∀d∈k,VS d):KQ neg #[k,6] #[l,1] S=#[.bl (if neg=true then !decide (k∈R)else decide (k∈R)),S,1]:=by rw[oA neg c (AT b).1 (λy h=>by refine(mM.mp h).a λt a g=>?_;subst g;have:=AT (hR t a);exact⟨this.1,by lia⟩),dec_is (⟨λz=>by refine(mM.mp z).a λt a e=>?_;exact MV.tup.inj e▸a,λz=>Ą z⟩)]
theorem Lp(hs:Z[ls]? =#[all,2])(i:↑44<1000)(t y m u c w): ∀(z:List (Nat×Ev)) P  v g ,(∀p∈z,Z[p.1]? =#[p.2,7]/\Has j p.2)->(∀k∈P, ∀d∈k,VS d)->P.length+z.length<=1000000->
  ∃G I,yZ (zV 9) lE [(ls,all)] (z.map λp=>.loc p.1) (F5 lr q (.tup #[j,8]) A ln ls [t,y,m,v,u,c,w,#[↑17],g]) (Z++[.lst (P.map .tup)])=#[F5 lr q (.tup #[j,8]) A ln ls [t,y,m,G,u,c,w,#[↑17],I],Z++[.lst ((RP j (z.map (·.2)) P).map .tup)],0]
 |[],P,v,g,_,_,_=>(Yk v g rfl)
 |p::z,P,v,g,hQ,hP,hz=>by
  refine V0 λC=>?_;rw[lC]at hz;obtain⟨J,B⟩:=hQ p (.head _);have b:(Z++[.lst (P.map .tup)])[↑17]? =some _:=zL _ _;have s:=HE P (yR j p.2);obtain⟨G,I,o⟩:=Lp hs i t y m u c w z _ _ _ (λx a=>hQ x (.tail _ a)) (λk n=>((Az ..).mp n).elim (hP k) λe=>by rw[e];exact B.vs) #[];refine C ?_;refine Yk G I ?_;rw[å,zW rfl ?_ (yN (zU hs)),o]
  .rfl
  have r:yD (zV 0) dN jI [none,some _] [] _ _=.ok (j.map (vD p.2)) (Z++[.lst (P.map .tup)]):=fV (wQ _) λx a=>(ZB ([#[x,4],#[p.1]]) rfl rfl (by obtain⟨d,j⟩:=Ļ.mp (B.2 x a);unfold jI;simp? [Km (zU (L:=[.lst (P.map .tup)]) J) B.1 j,jR j]))
  refine zA (ρ':=F5 lr q (.tup #[j,8]) A ln ls [t,y,m,#[p.1],u,c,w,#[↑17],#[yR j p.2,3]]) (S':=Z++[.lst (P.map .tup)]) ?_ ?_
  .unfold dO;simp? [oW,lM,show ↑44<1000000 by lia,show vH 1 [9] (F5 lr q _ A ln ls [t,y,m,some _,u,c,w,some _,g])=[none,some _]from rfl,r,fW];rfl
  .unfold dP;simp? [Te true b hP B.vs];unfold UW;by_cases h:yR j p.2∈P
   .rw[iP h,dT0 h];rfl
   .rw[iN h,dF0 h];simp? [Bool.not_false,yX b,xO b (by rw[lM];lia),wL];rw[ñ];rfl
theorem Lq(Q:QC rows as j vs ys)(rl:rows.length<=30)(M:as.length<=4)(X:S[lr]? =#[rows.map zX,2]):
  ∃F:List (List MV),F.Nodup/\(∀k,k∈F↔J9 rows as j k)/\zE 2 jK [#[lr,1],#[[.tup #[j,8],.tup #[as,9]],6]] S=#[(tZ F).map .tup,S,2]:=by
 have P:=YA (S:=S) (.inl rfl) Q.ha #[];have B: ∀x∈wF as,x∈yP [] (wF as):=λx a=>by rw[cK];exact .inr a
 have nl:(yP [] (wF as)).length<1000:=ł ((uT (wF as) Ł).length_le_of_subset λx a=>Q.hy x (by simpa [cK]using a)) (by have:=Q.yl;lia);generalize yP [] (wF as)=nm at P B nl;obtain⟨q,K⟩: ∃q,q=MV.tup [.tup #[j,8],.tup #[as,9]]:=⟨_,rfl⟩
 generalize e:S++[.lst #[nm,8]]=S1;have N0:NI S1 rows [] [(S1.length,[])] (S1.length+1) (S1++[.dic [],.lst [.loc S1.length]]):=⟨⟨_,rfl⟩,tV ..,λp b=>by rw[mS.mp b];simp,⟨λG s=>by rw[mS.mp s];exact⟨QW,λx=>by simp[look,wF]⟩,λG s=>(Z3 (λ_=>.non) nofun nofun),λσ _=>(Z3 ([]) (.head _) nofun)⟩,λp b=>by rw[mS.mp b];simp,by simp⟩
 refine(Lo (q:=q) (H:=.tup #[j,8]) (A:=.tup #[as,9]) (by rw[<-e];exact zU X) (by rw[<-e];exact zL _ _) nl rl (λr h d j=>Q.vv d (Q.hv r h d j)) Q.ha Q.hw M B as [] rfl N0 none none none none none none none).B λn C Z t y m v u c w g=>g.elim λe4 N=>?_;have hH: ∀p∈n,Has j p.2:=λp b=>⟨(N.I.dom _ (Ą b)).1,λx a=>((N.I.dom _ (Ą b)).2 x).mpr (Q.hh x a)⟩
 have lq:n.length<=30 ^ 4:=ô N.ln (Nat.pow_le_pow_right ↑11 M);refine(Lp (lr:=lr) (ln:=↑1) (q:=q) (A:=.tup #[as,9]) N.ls (by have:=Q.hl;lia) t y m u c w n [] v none (λp b=>⟨N.at' p b,hH p b⟩) nofun (by simp only[ø];lia)).m λU g2 J=>?_;have E:(RP j (n.map (·.2)) []).Nodup:=RE _ _ Ł
 have i: ∀k,k∈RP j (n.map (·.2)) []↔J9 rows as j k:=λk=>by
  rw[uX];constructor
  .rintro(h|⟨G,s,rfl⟩)
   .cases h
   .refine(N.I.snd G s).a λσ D W=>?_;exact Z3 (σ) D (Ė λx a=>W x (Q.hh x a))
  .rintro⟨σ,D,rfl⟩;refine(N.I.cmp σ D).a λG s h=>?_;exact .inr ⟨G,s,Ė λx a=>(h x (Q.hh x a)).symm⟩
 generalize RP j (n.map (·.2)) []=F at J E i;have O: ∀t∈F, ∀d∈t,VS d:=λt o d j=>Q.vv d ((AU Q ((i t).mp o)).2 d j);have Y:(Z++[.lst (F.map .tup)])[↑17]? =#[F.map .tup,2]:=zL _ _;have z:=Bf (l:=true) (Fd:=cB) (S:=Z++[.lst (F.map .tup)]) (p:=#[↑17,1]) O (λt o=>(AU Q ((i t).mp o)).1) (ł (YG E λk hk=>AU Q ((i k).mp hk)) Q.ph) (pH Y) λt o=>Lf (O t o) (by rw[(AU Q ((i t).mp o)).1];have:=Q.hl;lia) _;obtain⟨T,hT⟩:=N.ex;refine ZB F E i (BP (T:=.lst #[nm,8]::T++[.lst (F.map .tup)]) rfl ?_ ((Li Q i).2 _));rw[show S++_=Z++[.lst (F.map .tup)] by rw[hT, <-e];simp, <-K];show zT _=_;refine wC (zA (ρ':=[#[lr],some q,#[j.map MV.str,3],#[as.map zX,3],none,none,none,none,none,none,none,none,none,none,none]) (S':=S) ?_ (zA (ρ':=[#[lr],some q,#[j.map MV.str,3],#[as.map zX,3],#[↑1],none,none,none,none,none,none,none,none,none,none]) (S':=S1) ?_ (zA (ρ':=F5 lr q (.tup #[j,8]) (.tup #[as,9]) ↑1 (S1.length+1) [none,none,none,none,none,none,none,none,none]) (S':=S1++[.dic [],.lst [.loc S1.length]]) ?_ (zA (ρ':=F5 lr q (.tup #[j,8]) (.tup #[as,9]) ↑1 C [t,y,m,v,u,c,w,none,none]) (S':=Z) ?_ (zA (ρ':=F5 lr q (.tup #[j,8]) (.tup #[as,9]) ↑1 C [t,y,m,v,u,c,w,#[↑17],none]) (S':=Z++[.lst []]) ?_ (zA (ρ':=F5 lr q (.tup #[j,8]) (.tup #[as,9]) ↑1 C [t,y,m,U,u,c,w,#[↑17],g2]) (S':=Z++[.lst (F.map .tup)]) ?_ ?_))))))
 .unfold lF;simp? [rG];rw[K];rfl
 .unfold lG;simp? [P,e]
 .unfold lH;simp? [BR,lA,aA];rfl
 .unfold lI;exists 7,oW,e4
 .unfold lK;exists 7,rfl
 .unfold lL;exists 7,xX (zU (L:=[.lst []]) N.ls),J
 .unfold lN;exists 7,z
def Fg(o n:Db)(t:MV):MV:=if vn t=some o then .tup [.str KD,.str n]else t
def Et(o n:Db)(a:Rw):Rw:=(a.1,a.2.map (Fg o n))
noncomputable abbrev ON(q:MV)(o n:Db)(H A:MV)(a:Nat)(t y l w x:Y0):Rho:=[some q,#[o,4],#[n,4],some H,some A,#[a],t,y,l,w,x]
section
theorem Ui: ∀ j ,(∀d∈j,xK d)-> ∀ us  w x ,↑66+↑44<1000->
  ∃u m,yZ (iB 2 (zB (zV 9) (zB (zV 10) zY))) fM [] j (ON q o n H A lm t y #[↑17] w x) (Z++[.lst us])=#[ON q o n H A lm t y #[↑17] u m,Z++[.lst (us++j.map (Fg o n))],0]
 |[],_,us,w,x,_=>(Yk w x (by rw[ň,aN];rfl))
 |d::j,hT,us,w,x,hl=>by
  rw[lC]at hl;have B:=zL Z (.lst us)
  obtain⟨a,b,c,e,k,p⟩: ∃a b c,d=.tup [a,b]/\Fg o n d=.tup [a,c]/\cG (ON q o n H A lm t y #[↑17] (some a) (some b)) (Z++[.lst us])=#[ON q o n H A lm t y #[↑17] (some a) (some c),Z++[.lst us],0]:=by
   unfold cG Fg;rcases hT d (.head _)with⟨z,rfl⟩|⟨v,hv,rfl⟩
   .rw[EW];by_cases h:z=o
    .refine⟨_,_,.str n,rfl,iP (by rw[h]),?_⟩;simp? [eq_str,decide_true,dT0 h]
    .refine⟨_,_,.str z,rfl,iN λe=>h (ä e),?_⟩;simp? [eq_str,decide_true,dF0 h,fT,iF]
   .rw[MY];refine YR _ _ v ⟨rfl,iN nofun,?_⟩;exists 7,JD,fT,iF
  obtain⟨u,m,i⟩:=Ui j (λe r=>hT e (.tail _ r)) (us++[Fg o n d]) _ _ (by simp;lia);rw[aA us]at i;refine Yk u m ?_;have s:fM _ _=#[ON q o n H A lm t y #[↑17] (some a) (some c),Z++[.lst (us++[Fg o n d])],0]:=zA p (by unfold lO;simp? [yX B,xO B #[],wL,k]);rw[e,zW rfl s (wQ _),i, <-e];rfl
theorem Lr: ∀(as:List Rw),(∀b∈as,(∀d∈b.2,xK d)/\b.2.length<=4)-> ∀ bs  T  t y l w x ,bs.length+as.length<1000->
  ∃z t' B u m j,yZ (iB 2 (zB (zV 6) (zB (zV 7) zY))) rA [] #[as,9] (ON q o n H A ↑1 t y l w x) (S++.lst #[bs,9]::T)=#[ON q o n H A ↑1 t' B u m j,(S++.lst ((bs++as.map (Et o n)).map zX)::z),0]
 |[],_,bs,T,t,y,l,w,x,_=>(WW T t y l w x (by rw[ň,ň,aN];rfl))
 |a::as,hA,bs,T,t,y,l,w,x,hl=>by
  rw[lC]at hl;obtain⟨G,I⟩:=hA a (.head _);generalize h:S++.lst _::T=Z;rw[20];have s:Z[↑1]? =#[bs.map zX,2]:=by rw[<-h];exact lW ..
  obtain⟨k,p,e⟩:=Ui a.2 G [] w x (by simp only[ø];lia);obtain⟨z,t',B,u,m,j,i⟩:=Lr as (λb r=>hA b (.tail _ r)) (bs++[Et o n a]) _ _ _ _ k p (by simp;lia);rw[aA bs]at i;refine g ?_;refine WW z t' B u m j ?_;rw[å,zW rfl ?_ (wQ _),i]
  .rfl
  refine zA (ρ':=ON q o n H A ↑1 #[a.1,0] #[a.2,3] #[↑17] w x) (S':=Z++[.lst []]) ?_ (zA (ρ':=ON q o n H A ↑1 #[a.1,0] #[a.2,3] #[↑17] k p) (S':=Z++[.lst (a.2.map (Fg o n))]) ?_ ?_)
  .unfold lP;exists 7,rfl
  .unfold lQ;exists 7,oW,e
  .have c:=zU (L:=[.lst (a.2.map (Fg o n))]) s;unfold lR;simp? [yX c,EU (zL Z _),xO c (by rw[lM];lia)];rw[<-h,aA,ĩ,QQ,ñ];rfl
end
theorem K6{hs:Ch}{as:List Rw}(k:↑9):pd ↑53=true/\DR ↑53<40:=by
 have j: ∀d∈hs.map MV.str,pd d=true/\DR d<=0:=λd c=>by refine(mM.mp c).a λx _ g=>?_;subst g;exact⟨tR x,by rw[fN];exact à 0⟩
 have e: ∀d∈as.map zX,pd d=true/\DR d<=3:=λd c=>by
  refine(mM.mp c).a λa h n=>?_;subst n;have i:=cI λd c=>(MW ((k a h).1 d c)).1;have m:=mZ λd c=>(MW ((k a h).1 d c)).2;unfold zX;refine⟨by rw[wA,yE,yE,wA,i];rfl,?_⟩;rw[xP,yH,yH,tQ,rH,xP]
  lia
 have i:=mZ λd c=>(j d c).2;have m:=mZ λd c=>(e d c).2;refine⟨by rw[wA,yE,yE,wA,wA,cI λd c=>(j d c).1,cI λd c=>(e d c).1];rfl,?_⟩;rw[xP,yH,yH,tQ,xP,xP]
 lia
def zBL(h:xK t):xK (Fg o n t):=by
 unfold Fg;split
 .exact .inl ⟨n,rfl⟩
 .exact h
theorem Bk(hT:Jy ts)(hV: ∀d∈vs,VS d)(q:1<=↑10)(w:↑10<=3)(k:↑40=4)(i: ∀a∈as,Ff ts ys vs a)(C:as.length<=4)(A:hs.length<=4)(u: ∀y∈hs,y∈yP [] (wF as))(o: ∀r∈rs,Sa ts vs r)(rl:↑58<=30):QC rs as hs vs ys:=by
 have m: ∀{n:Nat},n<=4->↑10 ^ n<=3 ^ 4:=λh=>ô (Nat.pow_le_pow_left w _) (Nat.pow_le_pow_right ↑11 h);refine⟨λr h=>(o r h).2,hV,q,by lia,λb c=>⟨λd B=>((i b c).2.1 d B).ok hV,?_⟩,λb c r h e=>by rw[(i b c).1,(o r h).1,e],by lia,λx j=>by have:=u x j;rw[cK]at this;simpa using this,by lia,λx j=>?_,by lia,?_,?_⟩
 .rw[(i b c).1];unfold Ei
  cases z:ts[b.1.toNat]? with
  |none=>simp
  |some p=>have:=hT.2.2 p (è z);simp;lia
 .obtain⟨b,c,t,s,e⟩:=kC.mp j;rcases (i b c).2.1 t s with⟨y,k,rfl⟩|⟨v,_,rfl⟩
  .rw[EW]at e;cases e;exact k
  .rw[MY]at e;cases e
 .rw[k];exact ô (m (à 4)) ↑11
 .exact ł (m A) ↑11
theorem Bl(Q:QC rows as j vs ys)(rl:rows.length<=30)(q:as.length<=4)(o:S[lr]? =#[rows.map zX,2]):
  ∃X,zE 2 cZ [#[lr,1],#[[.tup #[j,8],.tup #[as,9]],6]] S=#[X,S,2]/\zE 2 jK [#[lr,1],#[[.tup #[j,8],.tup #[as,9]],6]] S=#[X,S,2]/\KO (.new X) (.new X) S=#[.bl false,S,1]:=by
 refine(Lq Q rl q o).b λF r b h=>?_;refine ZB _ (by refine(zBG Q o).c λm T c a n=>?_;rw[ND (λt e d j=>Q.vv d ((AU Q ((b t).mp e)).2 d j)) ((fY m).trans ((List.perm_ext_iff_of_nodup c r).mpr λk=>by rw[a,b])) (RD m)]at n;exact BP rfl n ((Li Q b).2 _)) h ?_;have i: ∀d∈(tZ F).map MV.tup,pd d=true/\DR d<zK:=λd j=>by refine(mM.mp j).a λt e g=>?_;subst g;have:=AT ((Li Q b).1 t e);exact⟨this.1,by unfold zK;lia⟩
 obtain⟨bs,c,a⟩:=JA λd j f p=>tS zK (i d j).1 (i f p).1 (i d j).2;rw[dT0 rfl,aE]at a;unfold KO;rw[show GK S zK _ _=some true by show(if((tZ F).map MV.tup).length=((tZ F).map MV.tup).length then(GI _ _ _).map λbs=>bs.all id else some false)=_;rw[iP rfl,c];show some (bs.all id)=_;rw[a.1]];rfl
theorem Lu(t)(e:S[a]? =#[as.map zX,2])(o:↑9)(h:as.length<=4):
  ∃hs:List (List Nat),hs.length<=4/\(∀y∈hs,y∈yP [] (wF as))/\hs.Nodup/\zE 3 aK [.new [.int t],#[a,1],#[4,5]] S=#[hs.map MV.str,S,2]:=by
 have c:↑1<(S++[MO.lst []]).length:=by simp
 have p:=(gS.mp e).1;obtain⟨hs,z,j,k,m,fs,n⟩:=Sd c #[] (zU e) o h;refine⟨hs,j,k,m,cJ (T:=[.lst [.int z],.lst #[fs,8],.lst _]) rfl (show zG [.new [.int t],.val _,.val _] S=([.loc ↑1,.loc a,.int 4],S++[.lst [.int t]])from rfl) ?_ (.inr (ZB _ rfl (by lia) (XZ (i:=2) rfl))) (uU _ _)⟩;rw[pS,n,lA, <-eI c, <-pS,aA];rfl
section
abbrev K8(q:MV)(ts:Tk)(u:MV)(k a b:Y0):Rho:=[some q,some (TT ts),#[0],#[1],#[2],#[3],some u,#[4],#[5],k,a,b]
theorem Lv{hs nm:Ch}{rs:List Rw}(hT:Jy ts)(hV: ∀d∈vs,Vl d)(hY: ∀y∈ys,Nm y)(E:1<=↑10)(C:↑10<=3)(H:↑40=4)(D: ∀a∈as,Ff ts ys vs a)(a1:1<=as.length)(J:as.length<=4)(G:hs.length<=4)(F: ∀y∈hs,y∈yP [] (wF as))(K:hs.Nodup)(B: ∀r∈rs,Sa ts vs r)(rl:↑58<=30)(s4:S[4]? =#[rs.map zX,2])(U:S[5]? =#[nm.map MV.str,2])(N: ∀x∈nm,x∈ys)(hj:j+1<nm.length)(a b):
  ∃a' b',HB (K8 q ts ↑53 #[j,0] a b) S=#[K8 q ts ↑53 #[j,0] a' b',S,0]:=by
 have i: ∀d∈vs,VS d:=λd h=>(hV d h).vs;have P:jV _ #[j,5] S=.ok _ S:=AD U (JH (by rw[ó,gE #[]];rfl));have W:jV _ #[j+1,5] S=.ok _ S:=AD U (JH (k:=j+1) (by rw[ó,gE hj];rfl));have hn:=N _ (ŀ hj);generalize nm[j]=o at P;generalize nm[j+1]=n at W hn;have L:=(show zE 3 rF [#[[.tup #[hs,8],.tup #[as,9]],6],.val (.str o),.val (.str n)] S=#[.tup [.tup ((hs.filter λx=>!decide (x=o)).map MV.str),.tup ((as.map (Et o n)).map zX)],S,1] by
   obtain⟨q,I⟩: ∃q,q=MV.tup [.tup #[hs,8],.tup #[as,9]]:=⟨_,rfl⟩
   obtain⟨T,t,y,l,w,x,e⟩:=Lr as ((Bk hT i E C H D J G F B rl).ha) [] [] none none none none none (by simp only[ø];lia);refine pG (T:=.lst ((as.map (Et o n)).map zX)::T) rfl ?_ (lV (K6 λb A=>?_).1) (λl=>by simp)
   .show zT _=_;refine wC (zA (ρ':=[some q,#[o,4],#[n,4],#[hs.map MV.str,3],#[as.map zX,3],none,none,none,none,none,none]) (S':=S) ?_ (zA (ρ':=ON q o n (.tup #[hs,8]) (.tup #[as,9]) ↑1 none none none none none) (S':=S++[.lst []]) ?_ (zA (ρ':=ON q o n (.tup #[hs,8]) (.tup #[as,9]) ↑1 t y l w x) (S':=S++.lst ((as.map (Et o n)).map zX)::T) ?_ ?_)))
    .unfold rB;rw[I];rfl
    .unfold rC;exists 7,rfl
    .unfold rD;exists 7,oW,e
    .have hc:=VF (cf:=cH) (ef:=lU) (ρb:=[some _]) (Z:=S++.lst ((as.map (Et o n)).map zX)::T) (xs:=hs) (wQ _) (λx=>by
      unfold cH;exists 7,show KO _ _ _=.ok _ _ from Ic (GR _ x o)) (λx=>by
      exists 7,rfl)
     unfold rE;simp? [oW,lM,show hs.length<1000000 by lia,show vH 1 [1] (ON q o n _ _ ↑1 t y l w x)=[none,some _]from rfl,hc,fW,EU (lW S T _)]
   .refine(mM.mp A).a λa Y g=>?_;subst g;exact⟨λd M=>by refine(mM.mp M).a λt v V=>?_;subst V;exact zBL ((((Bk hT i E C H D J G F B rl).ha) a Y).1 t v),by simp[Et];exact(((Bk hT i E C H D J G F B rl).ha) a Y).2⟩);have s: ∀a∈as.map (Et o n),Ff ts ys vs a:=λa h=>by refine(mM.mp h).a λb A bu=>?_;subst bu;exact (by
     refine(D b A).e λh1 h2 h3=>?_;refine⟨(lM ..).trans h1,λd M=>?_,h3⟩;refine(mM.mp M).a λt v bv=>?_;subst bv;unfold Fg;split
     .exact .inl ⟨n,hn,rfl⟩
     .exact h2 t v)
 have O:(as.map (Et o n)).length=as.length:=lM ..;have c: ∀y∈hs.filter λx=>!decide (x=o),y∈yP [] (wF (as.map (Et o n))):=λy h=>by obtain⟨m,e⟩:=Ę.mp h;have:=F y m;rw[cK]at this ⊢;exact .inr ((by have h:=(by simpa using this);have hx:=(by simpa using e);obtain⟨b,A,t,v,e⟩:=kC.mp h;refine kC.mpr ⟨_,Ą A,_,Ą v,?_⟩;unfold Fg;rw[iN λz=>hx (ä (e.symm.trans z)),e]))
 have u:(hs.filter λx=>!decide (x=o)).length<=4:=ô (Ď ..) G;have p:(hs.filter λx=>!decide (x=o)).Nodup:=K.filter _;generalize hs.filter (λx=>!decide (x=o))=hs2 at L c u p;generalize as.map (Et o n)=as2 at L s O c;have Q:QC rs as2 hs2 vs ys:=Bk hT i E C H s #[] u c B rl;obtain⟨p1,p2⟩:=K6 (hs:=hs2) Q.ha;have I:zE 3 xF [.val (TT ts),.val _,.val _] S=.ok _ S:=cV rfl (JP hT hY hV (.inl rfl) (.inl rfl) s Q.ha #[] #[] p u c) (lV p1) (λl=>by simp);refine(Bl Q rl #[] s4).b λX x1 x2 x3=>?_;refine Yk (#[[.tup #[hs2,8],.tup #[as2,9]],3]) (#[[.tup #[hs2,8],.tup #[as2,9]],3]) (zA (ρ':=K8 q ts ↑53 #[j,0] #[[.tup #[hs2,8],.tup #[as2,9]],3] b) (S':=S) ?_ (zA (ρ':=K8 q ts ↑53 #[j,0] #[[.tup #[hs2,8],.tup #[as2,9]],3] #[[.tup #[hs2,8],.tup #[as2,9]],3]) (S':=S) ?_ ?_))
 .unfold ER;exists 7,P,W,L
 .unfold ES;exists 7,JE,LA,I
 .unfold ET;simp? [DA p1 p1 p2,decide_true,Ĩ,x1,x2,x3,fT,iF]
end
theorem Lw(c:Za)(aq:c.length<=63): ∃S,UJ [.scr (c.map MV.int)] []=#[.bl true,S,1]:=by
 rw[31];obtain⟨c0,af⟩:=uV c 0 ↑11 [];obtain⟨t0,ah⟩:=dR c0 [];refine(Eh t0 []).a λts hT O=>?_;obtain⟨c1,W⟩:=uV c 1 ↑11 [];obtain⟨t1,ak⟩:=dR c1 [];refine(Ry t1 []).elim λvs g=>g.h λhV U v3 D=>?_;have s: ∀d∈vs,VS d:=λd h=>(hV d h).vs;obtain⟨c4,J⟩:=uV c 4 ↑11 [.lst vs];obtain⟨t4,aj⟩:=dR c4 [.lst vs];refine(Kj t4 [.lst vs]).k λb r r2 b6 ag ae=>?_;obtain⟨ys,C⟩: ∃ys,ys=b::r++[[99]++b]:=⟨_,rfl⟩
 have hY: ∀y∈ys,Nm y:=λy h=>by
  rw[C]at h;rcases ê.mp h with h|h
  .exact ag y h
  .rw[mS.mp h];exact(Ki (ag b (.head _)) b6).2.2
 have hy:↑40=4:=by rw[C];simp[r2]
 refine bw ?_;generalize hP:([.lst vs,.lst #[ys,8]]:Sto)=P;have p0:P[0]? =#[vs,2]:=by rw[<-hP];rfl
 have p2:P.length=2:=by rw[<-hP];rfl
 obtain⟨c2,L⟩:=uV c 2 ↑11 P;obtain⟨F,ao⟩:=dR c2 P;have m2:=md (x:=F) (n:=4);have l3:2<(P++[MO.lst []]).length:=by rw[lA,p2];decide
 have I:=xC (S:=P++[.lst []]) (l:=2) (x:=F) (n:=4) l3;refine(Kl (S:=P++[.lst []]) (M:=(1+F % 4).toNat) (l:=2) (p:=0) (q:=1) l3 ↑11 ↑11 (zU p0) (zU (by rw[<-hP];rfl)) s U #[] #[] #[] hT #[] (F / 4)).c λas z2 al hA B=>?_;rw[show eH (1+F % 4).toNat=.int (1+F % 4) by unfold eH;rw[Int.toNat_of_nonneg #[]]]at B;have wi: ∀z,Wl (P++[.lst []]) 2 z=P++[.lst [.int z]]:=λz=>by rw[<-p2];exact(pS P z).symm
 rw[wi,wi]at I B;generalize v:P++[.lst [.int z2]]++[.lst #[as,9]]=S4;refine V0 λbx=>?_;have q3:S4[3]? =#[as.map zX,2]:=by rw[<-v,show 3=(P++[MO.lst [.int z2]]).length by rw[lA,p2];rfl];exact zL _ _
 have q4:S4.length=4:=by rw[<-v,lA,lA,p2];rfl
 obtain⟨c3,aa⟩:=uV c 3 ↑11 S4;obtain⟨t3,ai⟩:=dR c3 S4;have o: ∀b∈as,(∀d∈b.2,xK d)/\b.2.length<=4:=(Bk (hs:=[]) (rs:=[]) hT s U v3 hy hA #[] (by simp) nofun nofun (by simp)).ha;refine(Lu t3 q3 o #[]).elim λhs V=>V.h λh4 hh N H=>?_;obtain⟨u,hu⟩: ∃u,u=MV.tup [.tup #[hs,8],.tup #[as,9]]:=⟨_,rfl⟩
 have hq:zE 3 xF [.val (TT ts),.new #[hs,8],#[3,1]] S4=#[u,S4,1]:=by rw[hu];have hF:=JP (S:=S4++[.lst #[hs,8]]) (hm:=.loc S4.length) (am:=.loc 3) hT hY hV (.inr ⟨_,rfl,zL _ _⟩) (.inr ⟨_,rfl,zU q3⟩) hA o #[] #[] N h4 hh;refine pG (T:=[.lst #[hs,8]]) rfl ?_ (lV (K6 o).1) (λl=>by simp);rw[show zG [.val (TT ts),.new #[hs,8],#[3,1]] S4=([TT ts,.loc S4.length,.loc 3],S4++[.lst #[hs,8]])from rfl];exact hF
 obtain⟨c5,Z⟩:=uV c 5 ↑11 S4;refine(Sh (S:=S4) (p:=0) (by rw[<-v];exact zU (zU p0)) s U #[] hT c5 (cs:=c.drop 6) (by rw[ą];lia)).b λrs hr rl ab=>?_;have Q:=Bk hT s U v3 hy hA #[] h4 hh hr rl;refine bx ?_;generalize w:S4++[.lst #[rs,9]]=S5;have s4:S5[4]? =#[rs.map zX,2]:=by rw[<-w, <-q4];exact zL _ _
 have s5:S5.length=5:=by rw[<-w,lA,q4];rfl
 refine(Bl Q rl #[] s4).b λX x1 x2 x3=>?_;rw[<-hu]at x1 x2;have A:=YA (S:=S5) (m:=.loc 3) (.inr ⟨_,rfl,by rw[<-w];exact zU q3⟩) o #[];have E: ∀x∈yP [] (wF as),x∈ys:=λx hx=>Q.hy x (by simpa [cK]using hx);have nl:(yP [] (wF as)).length<1000:=ł ((uT (wF as) Ł).length_le_of_subset E) #[];generalize yP [] (wF as)=nm at A E nl;generalize G:S5++[.lst #[nm,8]]=S6;refine V0 λbz=>?_;have w4:S6[4]? =#[rs.map zX,2]:=by rw[<-G];exact zU s4
 have w5:S6[5]? =#[nm.map MV.str,2]:=by rw[<-G, <-s5];exact zL _ _
 obtain⟨q,Y⟩: ∃q,q=MV.scr (c.map MV.int):=⟨_,rfl⟩
 obtain⟨_,_,e,k',a',b',rfl,rfl⟩:=fP (gf:=zV 9) (body:=HB) (n:=nm.length) (λ_ ρ S'=> ∃k a b:Option MV,ρ=K8 q ts u k a b/\S6=S') ((List.range ((nm.length:Int) - 1).toNat).map eH) 0 (by simp) (XE none none none rfl rfl) (λd hd i _ ρ S1 ⟨k,a,b,e1,e2⟩=>by subst e1 e2;refine(mM.mp hd).a λj hj ac=>?_;subst ac;rw[ő]at hj;refine(Lv (q:=q) hT hV hY U v3 hy hA #[] #[] h4 hh N hr rl w4 w5 E (j:=j) #[] a b).m λa' b' h=>?_;rw[<-hu]at h;exact⟨_,_,_,rfl,h,_,_,_,rfl,rfl⟩);have K:OV (.val q) (some 6) none S4=#[(c.drop 6).map MV.int,S4,2]:=by rw[Y,List.map_drop, <-MX];rfl
 refine bz ?_;rw[<-Y]at af W L aa J Z ⊢;refine⟨S6,?_⟩;show zT (Ap [some q,none,none,none,none,none,none,none,none,none,none,none] [])=_;refine wC ?_;unfold Ap;refine zA (ρ':=[some q,some (TT ts),none,none,none,none,none,none,none,none,none,none]) (S':=[]) ?_ ?_
 .unfold QF;exists 7,af,ah,O,fW
 refine zA (ρ':=[some q,some (TT ts),#[0],none,none,none,none,none,none,none,none,none]) (S':=[.lst vs]) ?_ ?_
 .unfold QG;exists 7,W,ak,D
 refine zA (ρ':=[some q,some (TT ts),#[0],#[1],none,none,none,none,none,none,none,none]) (S':=[.lst vs,.lst ((b::r).map MV.str)]) ?_ ?_
 .unfold QH;exists 7,J,aj,ae
 refine zA (ρ':=[some q,some (TT ts),#[0],#[1],none,none,none,none,none,none,none,none]) (S':=P) ?_ ?_
 .have g1:([.lst vs,.lst ((b::r).map MV.str)]:Sto)[1]? =#[(b::r).map MV.str,2]:=rfl;unfold QI;simp? [yX g1,AD g1 (i:=0) (d:=.str b) (JH (k:=0) rfl),adds (x:=[99]) (y:=b) (by simp;lia),xO g1 (by simp[r2])];rw[<-hP,C,ñ];rfl
 refine zA (ρ':=[some q,some (TT ts),#[0],#[1],#[2],none,none,none,none,none,none,none]) (S':=P++[.lst [.int F]]) ?_ ?_
 .unfold QJ;simp? [L,ao];rw[p2]
 refine zA (ρ':=[some q,some (TT ts),#[0],#[1],#[2],#[3],none,none,none,none,none,none]) (S':=S4) ?_ ?_
 .unfold QK;simp? [I,B];rw[v,lA,p2];rfl
 refine zA (ρ':=[some q,some (TT ts),#[0],#[1],#[2],#[3],some u,none,none,none,none,none]) (S':=S4) ?_ ?_
 .unfold QL;exists 7,aa,ai,H,hq
 refine zA (ρ':=[some q,some (TT ts),#[0],#[1],#[2],#[3],some u,#[4],none,none,none,none]) (S':=S5) ?_ ?_
 .unfold QM;simp? [K,Z,ab];rw[w,q4]
 refine zA (ρ':=[some q,some (TT ts),#[0],#[1],#[2],#[3],some u,#[4],none,none,none,none]) (S':=S5) ?_ ?_
 .unfold QN;exists 7,x1,x2,x3,fT,iF
 refine zA (ρ':=K8 q ts u none none none) (S':=S6) ?_ ?_
 .unfold IY;simp? [A];rw[G,s5]
 refine zA (ρ':=K8 q ts u k' a' b') (S':=S6) ?_ rfl;unfold IZ;simp? [gA w5,lM,sP (S:=S6) (j:=(nm.length:Int) - 1) #[]];exact e
section
variable{K:U0}
noncomputable def top(i:Nat):Stmt:=PySem.Challenge.pw_mendsure_k36_whole_answers.main.body.getD i (.Pass ⟨0,0,0,0⟩)
set_option bootstrap.genMatcherCode true in
local macro_rules
 | `(tactic|exists 1,$t)=>`(tactic|with_reducible show $t)
 | `(tactic|exists 7,$t)=>`(tactic|exists 1,zI _ _ _ $t)
 | `(tactic|exists 8,$t)=>`(tactic|exists 1,KC _ _ _ _ (bJ _ $t))
 | `(tactic|exists 3,$t)=>`(tactic|exists 1,zI _ _ (.Call (.Name $t _) _ _ _) _)
 | `(tactic|exists 4,$t)=>`(tactic|exists 1,zI _ _ (.Call (.Attribute _ $t _) _ _ _) _)
 | `(tactic|exists 5,$t)=>`(tactic|exists 1,zI _ _ (.BinOp _ $t _ _) _)
 | `(tactic|exists 6,$t)=>`(tactic|exists 1,zI _ _ (.Compare _ [$t] _ _) _)
 | `(tactic|and_intros)=>`(tactic|repeat' (first |(exists 1,OO _ _ _ (λ_ _=>R.no);exact Gx)|(exists 1,DX _ _ [_] _;refine WP ?_)|(exists 1,DX _ _ (_::_) _;refine OP ?_ ?_)|(exists 1,DX _ _ [] _;exact Xo)|(exists 1,OO _ _ (.Assign _ (.ListComp _ _ _ _) _) _;refine Jw ‹_› ?_ (λ_ _ _ _ _=>?_) (λ_ _ _ _=>?_) (λ_ _ _ _=>?_))|(exists 1,OO _ _ (.Assign [.Name _ _] _ _) _;refine Xs _ ‹_› ?_)|(exists 1,OO _ _ (.Assign _ _ _) _;refine Xt ?_ ?_)|(exists 1,OO _ _ (.Return _ _) _;refine Xp ?_)|(exists 1,OO _ _ (.For _ _ _ _ _) _;refine Xw PassesOwn.never rfl ?_ ?_ ?_)|(exists 1,OO _ _ (.If _ _ _ _) _;refine W2 ?_ ?_ ?_)|(exists 1,OO _ _ (.Expr _ _) _;refine Ob ?_)|(exists 1,zI _ _ (.Name _ _) _;first |(exists 1,zI _ _ (.Name _ _) (vJ _);exact Xa _)|exact Nu rfl ‹_›|exact SH rfl ‹_› Yu|exact SH rfl ‹_› SV|exact SH rfl ‹_› Yt|exact SH rfl ‹_› Pg|exact SH rfl ‹_› BN)|(exists 1,zI _ _ (.Constant _ _ _) _;first |exact Xb|exact Xd _|exact V7|exact Xc)|(exists 1,zI _ _ (.UnaryOp _ _ _) _;first |refine Xh ?_|exact Xe)|(exists 1,zI _ _ (.List _ _) _;refine Xn ?_)|(exists 1,zI _ _ (.Tuple _ _ _) _;refine Xm ?_)|(exists 1,zI _ _ (.BinOp _ _ _ _) _;first |(exists 5,.Add;refine Yi ?_ ?_)|(exists 5,.Mult;refine Yj ?_ ?_)|(exists 5,.Mod;refine Yf ?_ ?_)|(exists 5,.Sub;refine Yd ?_ ?_)|(exists 5,.Pow;refine Yh ?_ ?_)|(exists 5,.BitAnd;refine Qz ?_ ?_)|(exists 5,.FloorDiv;refine Ye ?_ ?_)|(exists 5,.BitOr;refine E2 ?_ ?_))|(exists 1,zI _ _ (.Compare _ _ _ _) _;first |(exists 1,zI _ _ (.Compare _ [.LtE,.LtE] _ _) _;refine Ox ?_ ?_ ?_)|(exists 6,.Eq;refine W4 (Room.units ‹_›) ?_ ?_)|(exists 6,.Lt;refine W7 (Room.units ‹_›) ?_ ?_)|(exists 1,zI _ _ (.Compare _ [.LtE,.Lt] _ _) _;refine Oz (Room.units ‹_›) ?_ ?_ ?_)|(exists 6,.In;refine X2 (Room.units ‹_›) ?_ ?_))|(exists 1,zI _ _ (.Subscript _ _ _) _;first |(exists 1,zI _ _ (.Subscript _ _ _) (dJ jV _ _);refine X1 ?_ ?_)|(exists 1,zI _ _ (.Subscript _ _ _) (tJ OV _ _ _);refine Yl ?_ ?_ ?_)|(exists 1,zI _ _ (.Subscript _ _ _) (dJ UA _ _);refine E3 ?_ ?_))|(exists 1,zI _ _ (.ListComp _ _ _ _) _;refine Jv ‹_› ?_ (λ_ _ _ _ _=>?_) (λ_ _ _ _=>?_) (λ_ _ _ _=>?_))|(exists 1,zI _ _ (.Dict _ _ _) _;exact Id)|(exists 1,zI _ _ (.IfExp _ _ _ _) _;refine V8 ?_ ?_ ?_)|(exists 1,zI _ _ (.BoolOp _ _ _) _;first |refine Xf ?_|refine Xg ?_ ?_)|(exists 1,zI _ _ (.Call (.Attribute _ _ _) _ _ _) _;first |(exists 4,"append";refine Cy ?_ ?_)|(exists 4,"get";refine zAL (Room.units ‹_›) ?_ ?_)|(exists 4,"get";refine Qy ?_ ?_)|(exists 4,"setdefault";refine C9 ?_ ?_)|(exists 4,"setdefault";refine zAE (Room.units ‹_›) ?_ ?_)|(exists 4,"update";refine Qv ?_ ?_)|(exists 4,"pop";refine B5 ?_ ?_))|(exists 1,zI _ _ (.Call (.Name _ _) _ _ _) _;first |(exists 3,"len";refine sI Ct Yn rfl ‹_› Hr ?_)|(exists 3,"tuple";refine fQ KF Hq rfl ‹_› SV ?_)|(exists 3,"isinstance";refine sI Ho Yq rfl ‹_› vI ?_)|(exists 3,"all";refine sI OL (Yp rfl) rfl ‹_› Ys ?_)|(exists 1,zI _ _ (.Call (.Name "dict" _) _ _ _) (bJ _ TV);refine fQ Jb C6 rfl ‹_› QE ?_)|(exists 3,"abs";refine sI Fy Yo rfl ‹_› Yr ?_)|(exists 3,"sorted";refine FN false ‹_› (Room.mono ‹_› (by decide)) rfl ‹_› rfl ?_)|(exists 1,zI _ _ (.Call (.Name "list" _) _ _ _) (bJ _ EF);refine fQ XG (Ja rfl) rfl ‹_› BN ?_)|(exists 1,zI _ _ (.Call (.Name "len" _) _ _ _) (bJ _ MK);refine Qp rfl rfl ‹_› rfl ‹_› ?_)|(exists 3,"isinstance";refine sI Dj Qm rfl ‹_› vI ?_)|(exists 1,zI _ _ (.Call (.Name "dict" _) _ _ _) (bJ _ N8);refine Rj rfl rfl ‹_› rfl ‹_› ?_)|(exists 1,zI _ _ (.Call (.Name "list" _) _ _ _) (bJ _ SU);refine fQ OG Pf rfl ‹_› BN ?_)|(exists 1,zI _ _ (.Call (.Name "dict" _) _ _ _) (bJ _ MT);refine fQ (Dx (Room.units ‹_›)) (Ra rfl) rfl ‹_› QE ?_)|(exists 1,zI _ _ (.Call (.Name "list" _) _ _ _) (bJ _ EL);refine fQ XX (Ju rfl) rfl ‹_› BN ?_)|(exists 1,zI _ _ (.Call (.Name "list" _) _ _ _) (bJ _ N4);refine Iv rfl rfl ‹_› ?_)|(exists 3,"sorted";refine FN true ‹_› (Room.mono ‹_› (by decide)) rfl ‹_› rfl ?_)|refine Iy ‹_› (Room.mono ‹_› (by decide)) rfl ?_)|(exists 1,uZ _ _ (.Compare _ _ _ _) _;first |(exists 1,uZ _ _ (.Compare _ [.Eq] _ _) _;refine W5 (Room.units ‹_›) ?_ ?_)|(exists 1,uZ _ _ (.Compare _ [.NotEq] _ _) _;refine W6 (Room.units ‹_›) ?_ ?_)|(exists 1,uZ _ _ (.Compare _ [.In] _ _) _;refine X3 (Room.units ‹_›) ?_ ?_)|(exists 1,uZ _ _ (.Compare _ [.NotIn] _ _) _;refine Hn (Room.units ‹_›) ?_ ?_)|(exists 1,uZ _ _ (.Compare _ [.LtE,.LtE] _ _) _;refine Oy ?_ ?_ ?_)|(exists 1,uZ _ _ (.Compare _ [.Gt] _ _) _;refine W9 ?_ ?_)|(exists 1,uZ _ _ (.Compare _ [.IsNot] _ _) _;refine Hk ?_ ?_)|(exists 1,uZ _ _ (.Compare _ [.Lt] _ _) _;refine W8 (Room.units ‹_›) ?_ ?_))|(exists 1,uZ _ _ (.UnaryOp _ _ _) _;refine Xk ?_)|(exists 1,uZ _ _ (.BoolOp _ _ _) _;refine W1 ?_)|(exists 1,uZ _ _ _ _;refine Gv ?_)|(exists 1,Tp _ _ _ _;first |refine V9 ?_ ?_|refine Xi ?_|refine Nx ?_|refine Xj ?_ ?_)|(exists 1,GF _ _ _ _;first |refine Ny ?_ ?_|exact Xl)|(exists 1,Wz _ _ _ _;first |refine Oa ?_|exact Nz)|(exists 1,SN _ _ _ _;first |exact Oj|refine Ol ?_)|(exists 1,KC _ _ _ _ _;first |(exists 8,GH;refine Og ?_)|(exists 8,nY;refine Cm rfl ‹_› ?_)|(exists 8,ZE;refine Xu ?_)|(exists 8,itQ;refine B3 ?_)|(exists 8,Tv;refine Pw rfl ‹_› ?_)|(exists 8,Yx;refine Yy rfl ‹_› ?_)|(exists 8,zBX;refine Xv ?_)|(exists 8,Dy;refine Jj ?_))|(exists 1,Cj _ _ (.Name _ _) _;exact Oc _ ‹_›)|(exists 1,Cj _ _ _ _;first |refine Xr rfl ?_|(exists 1,Cj _ _ _ (DJ CC _ _);refine Qr ?_ ?_)|(exists 1,Cj _ _ _ (DJ BU _ _);refine Px (Room.units ‹_›) ?_ ?_)|(exists 1,Cj _ _ _ (DJ LZ _ _);refine Yv ?_ ?_))|(exists 1,Gy _ _ _ _;first |refine Od ?_ ?_|exact Xq)|(exists 1,Ma _ _ _ (.Name _ _) _;exact Oh _ ‹_›)|(exists 1,Ma _ _ _ _ _;refine Xy rfl ?_)|(exists 1,Gz _ _ _ _ _;first |refine Oi ?_ ?_|exact Xx)))
 | `(tactic|exists 2,$f:ident,$xs:ident,*)=>`(tactic|(refine okA $f ‹_› (λ_ _ _ _ _ _ _ _ _ _=>?_);delta $f $xs*; (first |refine WP ?_|refine OP ?_ ?_);and_intros))
 | `(tactic|exists 0,$f:ident,$xs:ident,*)=>`(tactic|(refine okL $f ‹_› (λ_ _ _ _ _ _ _ _ _=>?_);delta $f $xs*; (first |refine WP ?_|refine OP ?_ ?_);and_intros))
def VI(D:DefM K mg "is_whole" (top 5))(c:mg "int"=none)(a:mg "isinstance"=none)(b:mg "bool"=none):Dr P w K mg base "is_whole" 1 1 ["thing"] gU:=by exists 2,IV,CI
def YI(D:DefM K mg "is_name" (top 6))(a:mg "str"=none)(d:mg "isinstance"=none)(e:mg "len"=none)(c:mg "MOST_LETTERS"=some (.int (8) lX))(b:mg "all"=none):Dr P w K mg base "is_name" 1 1 ["thing"] fR:=by exists 2,EM,sY,sZ,dW,jZ
def VJ(D:DefM K mg "is_value" (top 7))(a:Dr P w K mg base "is_whole" 1 1 ["thing"] gU)(c:mg "abs"=none)(b:Dr P w K mg base "is_name" 1 1 ["thing"] fR):Dr P w K mg base "is_value" 2 1 ["thing"] qI:=by exists 2,AN,eS,qH
def LB(D:DefM K mg "value_rank" (top 8))(a:mg "str"=none)(b:mg "isinstance"=none):Dr P w K mg base "value_rank" 1 1 ["value"] eU:=by exists 2,eT,bI,iH
def LC(D:DefM K mg "tuple_rank" (top 9))(a:Dr P w K mg base "value_rank" 1 1 ["value"] eU)(b:mg "tuple"=none):Dr P w K mg base "tuple_rank" 2 1 ["values"] eW:=by exists 2,eV,iI,cX,jB
def VL(D:DefM K mg "in_order" (top 10))(a:Dr P w K mg base "tuple_rank" 2 1 ["values"] eW)(b:mg "sorted"=none):Dr P w K mg base "in_order" 5 1 ["some"] qM:=by exists 2,qL,eY,eZ,qK,eX,iK
def VM(D:DefM K mg "is_tuple" (top 12))(a:mg "tuple"=none)(b:mg "isinstance"=none)(c:mg "len"=none):Dr P w K mg base "is_tuple" 1 3 qG kM:=by exists 2,qO,qN
def AV(D:DefM K mg "is_number_below" (top 13))(a:Dr P w K mg base "is_whole" 1 1 ["thing"] gU):Dr P w K mg base "is_number_below" 2 2 ["thing","bound"] wV:=by exists 2,wU,jP
def YJ(D:DefM K mg "is_term" (top 18))(c:Dr P w K mg base "is_tuple" 1 3 qG kM)(b:Dr P w K mg base "is_name" 1 1 ["thing"] fR)(a:Dr P w K mg base "is_value" 2 1 ["thing"] qI):Dr P w K mg base "is_term" 3 1 ["thing"] uL:=by exists 2,uK,mI,mK,tD
def YK(D:DefM K mg "is_atom" (top 19))(e:Dr P w K mg base "is_tuple" 1 3 qG kM)(b:Dr P w K mg base "is_number_below" 2 2 ["thing","bound"] wV)(d:mg "len"=none)(c:Dr P w K mg base "is_term" 3 1 ["thing"] uL)(a:mg "all"=none):Dr P w K mg base "is_atom" 4 2 ["thing","tables"] uM:=by exists 2,EN,tE,tF,tG,oG,dX
def VN(D:DefM K mg "names_in" (top 20))(a:mg "list"=none):Dr P w K mg base "names_in" 1 1 ["atoms"] yV:=by exists 2,qP,fA,fB,fC,bM,iL,bL,bK
def YL(D:DefM K mg "is_head" (top 21))(e:Dr P w K mg base "names_in" 1 1 ["atoms"] yV)(d:mg "len"=none)(c:mg "MOST_NAMES"=some (.int (4) rN))(a:mg "all"=none)(b:mg "set"=none):Dr P w K mg base "is_head" 2 2 ["things","atoms"] uN:=by exists 2,EO,tH,tI,tK,oH,dY
def Eu(D:DefM K mg "listed" (top 22))(c:mg "list"=none)(b:mg "tuple"=none)(a:mg "isinstance"=none):Dr P w K mg base "listed" 1 1 ["thing"] tL:=by exists 2,CK,AO
def JV(D:DefM K mg "question_of" (top 23))(a:Dr P w K mg base "listed" 1 1 ["thing"] tL)(e:mg "enumerate"=none)(d:Dr P w K mg base "is_atom" 4 2 ["thing","tables"] uM)(b:mg "len"=none)(h:mg "MOST_ATOMS"=some (.int (4) rM))(c:Dr P w K mg base "is_head" 2 2 ["things","atoms"] uN)(i:mg "tuple"=none):Dr P w K mg base "question_of" 5 3 ["tables","head","atoms"] xF:=by exists 2,oI,aO,aP,aQ,aR,gB,bN
def YM(D:DefM K mg "fitting" (top 24))(a:mg "zip"=none):Dr P w K mg base "fitting" 1 2 ["terms","cells"] fU:=by exists 2,fS,mL,mN,FP,xU,yT,dZ
def YN(D:DefM K mg "fits_of" (top 25))(a:mg "zip"=none)(b:Dr P w K mg base "fitting" 1 2 ["terms","cells"] fU):Dr P w K mg base "fits_of" 2 3 ["rows","marks","atom"] pO:=by exists 2,uO,mP,mQ,nA,xG,xH,hX
def RF(D:DefM K mg "values_at" (top 26))(a:mg "tuple"=none):Dr P w K mg base "values_at" 1 2 ["values","names"] yI:=by exists 2,mR,oK,aS,gC
def K9(D:DefM K mg "cut" (top 27))(a:Dr P w K mg base "values_at" 1 2 ["values","names"] yI)(c:mg "dict"=none)(b:mg "zip"=none):Dr P w K mg base "cut" 2 2 ["fits","names"] MU:=by exists 2,Ao,GY,GZ,HA,GX,EQ,pP,uP,uQ
def Ew(D:DefM K mg "joined" (top 28))(a:Dr P w K mg base "values_at" 1 2 ["values","names"] yI)(b:mg "dict"=none):Dr P w K mg base "joined" 2 3 ["fits","others","shared"] tM:=by exists 2,CL,AQ,qU,qV,qW,IW,iM,iQ,qQ,qT,iO,qS
def DG(D:DefM K mg "marked_answers" (top 29))(k:mg "EVERYWHERE"=some (.int (-1) rL))(i:mg "enumerate"=none)(j:Dr P w K mg base "names_in" 1 1 ["atoms"] yV)(c:mg "list"=none)(a:Dr P w K mg base "cut" 2 2 ["fits","names"] MU)(d:Dr P w K mg base "fits_of" 2 3 ["rows","marks","atom"] pO)(b:Dr P w K mg base "joined" 2 3 ["fits","others","shared"] tM)(e:Dr P w K mg base "values_at" 1 2 ["values","names"] yI)(h:mg "dict"=none):Dr P w K mg base "marked_answers" 3 3 ["rows","marks","question"] xS:=by exists 2,cY,iR,gV,xY,xZ,gW,gX,yW,xB,yO,kR,kS,kT,kU,kW,kX,kY,kN,aF,kO,aG,kP,aH,kQ,aI
def YO(D:DefM K mg "answers" (top 30))(c:Dr P w K mg base "in_order" 5 1 ["some"] qM)(a:Dr P w K mg base "marked_answers" 3 3 ["rows","marks","question"] xS)(b:mg "list"=none):Dr P w K mg base "answers" 6 2 ["rows","question"] cZ:=by exists 2,uR,tN,vK,vL
def GM(D:DefM K mg ŧ (top 32))(a:mg "len"=none):Dr P w K mg base ŧ 1 2 [ś,Š] zR:=by exists 2,bO,jC,pQ
def JW(D:DefM K mg ť (top 33))(a:mg "range"=none):Dr P w K mg base ť 1 1 [Ű] yA:=by exists 2,nB,gF,gG,aT,rV,aU,aV,gD,bP,bQ,bR
def RG(D:DefM K mg Ŝ (top 34)):Dr P w K mg base Ŝ 1 2 [Ŗ,ŗ] zC:=by exists 2,tO,nE,nF,vM
def RH(D:DefM K mg Ũ (top 35))(a:mg "range"=none)(b:↑13):Dr P w K mg base Ũ 2 1 [Ŗ] kZ:=by exists 2,tP,vN,vO,oM,vP,nG,aW
def RJ(D:DefM K mg ű (top 36))(a:mg "range"=none)(c:↑13)(b:Dr P w K mg base Ũ 2 1 [Ŗ] kZ):Dr P w K mg base ű 3 2 [Ŗ,ŗ] gZ:=by exists 2,mT,oN,oO,oP,nH,aX,aY,gH,gI,gM
def JX(D:DefM K mg Ū (top 37))(a:mg "range"=none)(b:↑13):Dr P w K mg base Ū 2 1 [Ŗ] nI:=by exists 2,oQ,aZ,eC,eE,gN,bS,bT
def VT(D:DefM K mg ŷ (top 38))(d:↑13)(c:mg "len"=none)(a:mg "range"=none)(b:mg "tuple"=none):Dr P w K mg base ŷ 2 3 [Ŗ,ř,Ś] qY:=by exists 2,qX,fE,fF,iS,bU
def RK(D:DefM K mg Ų (top 39))(a:Dr P w K mg base ť 1 1 [Ű] yA)(c:↑13)(d:Dr P w K mg base ŷ 2 3 [Ŗ,ř,Ś] qY)(b:mg "len"=none):Dr P w K mg base Ų 3 5 [ŝ,Ź,ř,Ś,Ť] mV:=by exists 2,mU,nN,nO,nP,nQ,vQ,gO,wI,xI,gP,wK
def RL(D:DefM K mg ų (top 40))(b:↑13)(a:mg "len"=none):Dr P w K mg base ų 2 3 sX mW:=by exists 2,bA,wM,nR
def LD(D:DefM K mg Ŭ (top 41))(a:mg "range"=none)(d:↑13)(c:mg "len"=none)(e:Dr P w K mg base ų 2 3 sX mW)(b:mg "tuple"=none):Dr P w K mg base Ŭ 3 5 [Ŗ,ř,Ş,Ś,ŗ] fG:=by exists 2,qZ,iT,iU,iV,bV,dB,dC,dA,jD
def EZ(D:DefM K mg š (top 42)):Dr P w K mg base š 1 1 [Ř] yK:=by exists 2,gQ,wX,wY,wZ,wW,jQ,yG,xN
def RM(D:DefM K mg Ŵ (top 43))(d:Dr P w K mg base š 1 1 [Ř] yK)(a:mg "range"=none)(c:↑13)(b:mg "len"=none):Dr P w K mg base Ŵ 2 3 [Ŗ,Ř,Ť] aK:=by exists 2,mX,oR,oS,oU,oV,nS,eF
def LE(D:DefM K mg ŭ (top 44))(b:Dr P w K mg base Ũ 2 1 [Ŗ] kZ)(c:↑13)(a:mg "range"=none):Dr P w K mg base ŭ 3 1 [Ŗ] fH:=by exists 2,CN,bX,bY,iW,iY,iZ,bW,dD,jE,dE
def LF(D:DefM K mg Ů (top 45))(a:mg "str"=none)(b:mg "isinstance"=none):Dr P w K mg base Ů 1 1 [ŝ] cB:=by exists 2,fI,cA,lB,lD,bZ,dF
def RN(D:DefM K mg ŵ (top 46))(c:mg "dict"=none)(a:mg "range"=none)(b:mg "len"=none):Dr P w K mg base ŵ 1 3 [ţ,ŝ,ũ] mY:=by exists 2,FQ,nT,nU,vR,yU,gR,xA,gT
def LG(D:DefM K mg ů (top 47))(e:Dr P w K mg base š 1 1 [Ř] yK)(h:Dr P w K mg base ŵ 1 3 [ţ,ŝ,ũ] mY)(a:mg "tuple"=none)(b:mg "list"=none)(c:Dr P w K mg base Ů 1 1 [ŝ] cB)(d:mg "sorted"=none):Dr P w K mg base ů 4 2 [Ţ,ş] jK:=by exists 2,CO,lF,lG,lH,lI,lK,lL,lN,cF,lE,dI,dL,dM,dO,dP,cE,dN,jI,dH,cC,pR,jG,jH,dG,jF
def VU(D:DefM K mg Ÿ (top 48))(a:mg "tuple"=none):Dr P w K mg base Ÿ 1 3 [ş,Ž,ž] rF:=by exists 2,IX,rB,rC,rD,rE,rA,cH,lU,lP,lQ,lR,fM,cG,lO
def L3(F:Fun K "law" "law" (top 49) f fd)(a:Dr P w K mg base Ū 2 1 [Ŗ] nI)(o:Dr P w K mg base ť 1 1 [Ű] yA)(c:Dr P w K mg base ŧ 1 2 [ś,Š] zR)(u:mg "tuple"=none)(r:Dr P w K mg base ű 3 2 [Ŗ,ŗ] gZ)(i:Dr P w K mg base ŭ 3 1 [Ŗ] fH)(q:Dr P w K mg base Ŭ 3 5 [Ŗ,ř,Ş,Ś,ŗ] fG)(k:↑13)(b:Dr P w K mg base "question_of" 5 3 ["tables","head","atoms"] xF)(e:Dr P w K mg base Ŵ 2 3 [Ŗ,Ř,Ť] aK)(h:Dr P w K mg base Ų 3 5 [ŝ,Ź,ř,Ś,Ť] mV)(j:Dr P w K mg base "answers" 6 2 ["rows","question"] cZ)(p:Dr P w K mg base ů 4 2 [Ţ,ş] jK)(m:Dr P w K mg base š 1 1 [Ř] yK)(n:mg "range"=none)(d:mg "len"=none)(s:Dr P w K mg base Ÿ 1 3 [ş,Ž,ž] rF):FnOk P w K mg base GP 7 f fd [ś] (VW ⟨K,mg,P,w⟩ 1 UJ):=by exists 0,Ap,QF,QG,QH,QI,QJ,QK,QL,QM,QN,IY,IZ,UI,HB,ER,ES,ET
end
abbrev mgN:=@PySem.W.mg_none_of
abbrev nNo(K:PySem.W.Frag)(x:Str):Prop:=PySem.W.nsIn K mainGlobals x=some none
def all_mk{l:PySem.W.OpenLaw}{K:U0}(X:K.In h)(r:h.Ns mainGlobals mg)(ah:mg "law"=some (.ref fa))(D0:DefM K mg "is_whole" (top 5))(D1:DefM K mg "is_name" (top 6))(D2:DefM K mg "is_value" (top 7))(D3:DefM K mg "value_rank" (top 8))(D4:DefM K mg "tuple_rank" (top 9))(D5:DefM K mg "in_order" (top 10))(D6:DefM K mg "is_tuple" (top 12))(D7:DefM K mg "is_number_below" (top 13))(D8:DefM K mg "is_term" (top 18))(D9:DefM K mg "is_atom" (top 19))(D10:DefM K mg "names_in" (top 20))(D11:DefM K mg "is_head" (top 21))(D12:DefM K mg "listed" (top 22))(D13:DefM K mg "question_of" (top 23))(D14:DefM K mg "fitting" (top 24))(D15:DefM K mg "fits_of" (top 25))(D16:DefM K mg "values_at" (top 26))(D17:DefM K mg "cut" (top 27))(D18:DefM K mg "joined" (top 28))(D19:DefM K mg "marked_answers" (top 29))(D20:DefM K mg "answers" (top 30))(D21:DefM K mg ŧ (top 32))(D22:DefM K mg ť (top 33))(D23:DefM K mg Ŝ (top 34))(D24:DefM K mg Ũ (top 35))(D25:DefM K mg ű (top 36))(D26:DefM K mg Ū (top 37))(D27:DefM K mg ŷ (top 38))(D28:DefM K mg Ų (top 39))(D29:DefM K mg ų (top 40))(D30:DefM K mg Ŭ (top 41))(D31:DefM K mg š (top 42))(D32:DefM K mg Ŵ (top 43))(D33:DefM K mg ŭ (top 44))(D34:DefM K mg Ů (top 45))(D35:DefM K mg ŵ (top 46))(D36:DefM K mg ů (top 47))(D37:DefM K mg Ÿ (top 48))(D38:DefM K mg "law" (top 49))
   (DP:PySem.W.nsIn K mainGlobals "EVERYWHERE"=some (some (.int (-1) rL)))
   (DQ:PySem.W.nsIn K mainGlobals "MOST_ATOMS"=some (some (.int (4) rM)))
   (uB:PySem.W.nsIn K mainGlobals "MOST_LETTERS"=some (some (.int (8) lX)))
   (DO:PySem.W.nsIn K mainGlobals "MOST_NAMES"=some (some (.int (4) rN)))
  (Uu:nNo K "abs")
  (Bp:nNo K "all")
  (Ly:nNo K "bool")
  (KB:nNo K "dict")
  (uC:nNo K "enumerate")
  (Ur:nNo K "int")
  (wD:nNo K "isinstance")
  (oD:nNo K "len")
  (FA:nNo K "list")
  (cM:nNo K "range")
  (Us:nNo K "set")
  (KA:nNo K "sorted")
  (Bo:nNo K "str")
  (cL:nNo K "tuple")
  (Bm:nNo K "zip")
  : ∃fd:FuncData,(∀ s  v ,BindsTo s fd ⟨[v],[]⟩ [(ś,v)])/\ ∀base:Heap,K.In base->base.Ns mainGlobals mg->FnOk l.prog w K mg base GP 7 fa fd [ś] (MA K UJ):=by
 have E:=mgN X r Uu;have z:=mgN X r Bp;have A:=mgN X r Ly;have k:=mgN X r KB;have i:=mgN X r uC;have D:=mgN X r Ur;have a:=mgN X r wD;have d:=mgN X r oD;have e:=mgN X r FA;have b:=mgN X r cM;have C:=mgN X r Us;have q:=mgN X r KA;have u:=mgN X r Bo;have c:=mgN X r cL;have y:=mgN X r Bm;have n:=PySem.W.mg_of X r DP;have p:=PySem.W.mg_of X r DQ;have j:=PySem.W.mg_of X r uB;have m:=PySem.W.mg_of X r DO;refine C4 D38 ah (λ_ _ _ _ _ _ s v=>.of_eq rfl) λbase f fd F=>?_;have G0:=VI (P:=l.prog) (w:=w) (base:=base) D0 D a A;have G1:=YI (P:=l.prog) (w:=w) (base:=base) D1 u a d j z;have G2:=VJ D2 G0 E G1;have G3:=LB (P:=l.prog) (w:=w) (base:=base) D3 u a;have G4:=LC D4 G3 c;have G5:=VL D5 G4 q;have G6:=VM (P:=l.prog) (w:=w) (base:=base) D6 c a d;have G7:=AV D7 G0;have G8:=YJ D8 G6 G1 G2;have G9:=YK D9 G6 G7 d G8 z;have I:=VN (P:=l.prog) (w:=w) (base:=base) D10 e;have ab:=YL (P:=l.prog) (w:=w) (base:=base) D11 I d m z C;have ar:=Eu (P:=l.prog) (w:=w) (base:=base) D12 e c a;have N:=JV (P:=l.prog) (w:=w) (base:=base) D13 ar i G9 d p ab c;have ai:=YM (P:=l.prog) (w:=w) (base:=base) D14 y;have Y:=YN (P:=l.prog) (w:=w) (base:=base) D15 y ai;have G:=RF (P:=l.prog) (w:=w) (base:=base) D16 c;have aj:=K9 (P:=l.prog) (w:=w) (base:=base) D17 G k y;have Z:=Ew (P:=l.prog) (w:=w) (base:=base) D18 G k;have aa:=DG (P:=l.prog) (w:=w) (base:=base) D19 n i I e aj Y Z G k;have U:=YO (P:=l.prog) (w:=w) (base:=base) D20 G5 aa e;have ae:=GM (P:=l.prog) (w:=w) (base:=base) D21 d;have J:=JW (P:=l.prog) (w:=w) (base:=base) D22 b;have o:=RG (P:=l.prog) (w:=w) (base:=base) D23;have H:=RH (P:=l.prog) (w:=w) (base:=base) D24 b o;have L:=RJ (P:=l.prog) (w:=w) (base:=base) D25 b o H;have ao:=JX (P:=l.prog) (w:=w) (base:=base) D26 b o;have Q:=VT (P:=l.prog) (w:=w) (base:=base) D27 o d b c;have af:=RK (P:=l.prog) (w:=w) (base:=base) D28 J o Q d;have au:=RL (P:=l.prog) (w:=w) (base:=base) D29 o d;have M:=LD (P:=l.prog) (w:=w) (base:=base) D30 b o d au c;have B:=EZ (P:=l.prog) (w:=w) (base:=base) D31;have ak:=RM (P:=l.prog) (w:=w) (base:=base) D32 B b o d;have T:=LE (P:=l.prog) (w:=w) (base:=base) D33 H o b;have O:=LF (P:=l.prog) (w:=w) (base:=base) D34 u a;have S:=RN (P:=l.prog) (w:=w) (base:=base) D35 k b d;have ag:=LG (P:=l.prog) (w:=w) (base:=base) D36 B S c e O q;have aq:=VU (P:=l.prog) (w:=w) (base:=base) D37 c;exact L3 (P:=l.prog) (w:=w) (base:=base) F ao J ae c L T M o N ak af U ag B b d aq
def walk{l:PySem.W.OpenLaw}{K:Params->PySem.W.Frag}(hn:l.most=some 63)(b:d.params.defaults=[])
  (hY: ∀ w  h ,YP w h->(K w.params).In h)
  (F: ∀ w  mg  j  h ,(K w.params).In h->h.Ns mainGlobals mg->mg d.name=some (.ref j)->
   ∃m:FuncData,(∀ s  u ,BindsTo s m ⟨[u],[]⟩ [(ś,u)])/\ ∀base:Heap,(K w.params).In base->base.Ns mainGlobals mg->FnOk l.prog w (K w.params) mg base GP 7 j m [ś] (MA (K w.params) UJ)):
  PySem.W.WalkO q loose XP YP l.row.toRowW d [] (λf vs=>PySem.call f vs):=
 L2.walk_of (n:=63) (k:=7) (x:=ś) (CX:=λ_=>GP) (sp:=λw=>MA (K w.params) UJ) hn ↑11 b ⟨rfl,by decide,by decide⟩ hY F
  (λw H a c e i o=>(by have h:=(Lw c e);obtain⟨S,h⟩:=h;refine ZB _ (zQ (ZA (Yz i o) (LV c)) zZ) rfl (λg _=>?_);rw[h];exact λv α' H' x w d=>sG d.1)) λ_ _ _ _ _ z=>z
end My
end M
end L2
namespace PySem.W.Fast
def tw7466376342577193755:=0
theorem te7466376342577193755:tw7466376342577193755=0:=rfl
def tw1018271745891016296:=0
theorem te1018271745891016296:tw1018271745891016296=0:=rfl
def tw8888884749292626878:=0
theorem te8888884749292626878:tw8888884749292626878=0:=rfl
def tw13414267625807469566:=0
theorem te13414267625807469566:tw13414267625807469566=0:=rfl
def tw10139005778964108645:=0
theorem te10139005778964108645:tw10139005778964108645=0:=rfl
def tw14363330045821855786:=0
theorem te14363330045821855786:tw14363330045821855786=0:=rfl
def tw3982489491721386016:=0
theorem te3982489491721386016:tw3982489491721386016=0:=rfl
def tw16509559757998381142:=0
theorem te16509559757998381142:tw16509559757998381142=0:=rfl
def tw8344276302177740577:=0
theorem te8344276302177740577:tw8344276302177740577=0:=rfl
def tw8821848389120324934:=0
theorem te8821848389120324934:tw8821848389120324934=0:=rfl
def tw6178689732818226244:=0
theorem te6178689732818226244:tw6178689732818226244=0:=rfl
def tw16560990641488082496:=0
theorem te16560990641488082496:tw16560990641488082496=0:=rfl
def tw13033156116103921418:=0
theorem te13033156116103921418:tw13033156116103921418=0:=rfl
def tw13415107552740028768:=0
theorem te13415107552740028768:tw13415107552740028768=0:=rfl
def tw6806074177796271563:=0
theorem te6806074177796271563:tw6806074177796271563=0:=rfl
def tw1826822291796026083:=0
theorem te1826822291796026083:tw1826822291796026083=0:=rfl
def tw12217234070362884866:=0
theorem te12217234070362884866:tw12217234070362884866=0:=rfl
def tw18117723521830811970:=0
theorem te18117723521830811970:tw18117723521830811970=0:=rfl
def tw14613513686708415493:=0
theorem te14613513686708415493:tw14613513686708415493=0:=rfl
def tw3286721986273561470:=0
theorem te3286721986273561470:tw3286721986273561470=0:=rfl
def tw1702657389909148593:=0
theorem te1702657389909148593:tw1702657389909148593=0:=rfl
def tw8184197659597000244:=0
theorem te8184197659597000244:tw8184197659597000244=0:=rfl
def tw8415543902670226248:=0
theorem te8415543902670226248:tw8415543902670226248=0:=rfl
def tw17218081488118098505:=0
theorem te17218081488118098505:tw17218081488118098505=0:=rfl
def tw14046844551528320397:=0
theorem te14046844551528320397:tw14046844551528320397=0:=rfl
def tw15865289754738690150:=0
theorem te15865289754738690150:tw15865289754738690150=0:=rfl
def tw11290813949160433543:=0
theorem te11290813949160433543:tw11290813949160433543=0:=rfl
def tw17029996031509254130:=0
theorem te17029996031509254130:tw17029996031509254130=0:=rfl
def tw16278087290725747799:=0
theorem te16278087290725747799:tw16278087290725747799=0:=rfl
end PySem.W.Fast
open PySem PySem.W PyProof.Rows
set_option maxRecDepth 100000 in
set_option maxHeartbeats 0 in
theorem PySem.Challenge.cw_mendsure_k36_whole_answers_holds : PySem.Challenge.rw_mendsure_k36_whole_answers.Holds := by
  w_on; o_law; k_head; (case hw => w_witness2)
  k_fill
  refine L2.M.My.walk (l := PySem.Challenge.rw_mendsure_k36_whole_answers) rfl rfl (fun w h Y => PySem.W.kIn_of Y) ?F
  case F =>
    intro w mg b h KX G a
    refine' L2.M.My.all_mk KX G a ?_ ?_ ?_ ?_ ?_ ?_ ?_ ?_ ?_ ?_ ?_ ?_ ?_ ?_ ?_ ?_ ?_ ?_ ?_ ?_ ?_ ?_ ?_ ?_ ?_ ?_ ?_ ?_ ?_ ?_ ?_ ?_ ?_ ?_ ?_ ?_ ?_ ?_ ?_ ?_ ?_ ?_ ?_ ?_ ?_ ?_ ?_ ?_ ?_ ?_ ?_ ?_ ?_ ?_ ?_ ?_ ?_ ?_
    any_goals first | (exact L2.M.def_mk (by k_is) (by k_is) (by k_is) (by k_is) KX G) | (k_is) | (show PySem.W.nsIn _ _ _ = _; k_is)
