import PyProof.Rows.All
import Wide.All
import OpenK.AllK
import Wide.FinOn
import Lean
import PyProof.EqAt
import PyProof.EqKinds
import PyProof.TupleCall
import PySem.Challenge.RW_mendsure_k21_the_one_of_a_number
set_option Elab.async false
set_option linter.all false
set_option hygiene false
set_option compiler.extract_closed false
local macro_rules|`(↑6)=>`((e::es).length+([]:List Keyword).length+(if([]:List Keyword).isEmpty then 0 else 1)<30)
local macro_rules|`(↑7)=>`(∀b o,s.heap.get? b=some o->h'.get? b=some o)
local macro_rules|`(↑8)=>`(.scr (ns.map MV.int))
local macro_rules|`(↑9)=>`(rs.length)
local macro_rules|`(↑10)=>`(by decide+kernel)
local macro_rules|`(↑11)=>`(zT ts rls rs)
local macro_rules|`(↑12)=>`(xs.length)
local macro_rules|`(↑13)=>`(ds.length)
local macro_rules|`(↑14)=>`(Keyed->Keyed->Bool)
local macro_rules|`(↑15)=>`(.ListComp elt [⟨tg,iter,ifs,0⟩] sc pos)
local macro_rules|`(↑16)=>`(List MV->Sto->R Er)
local macro_rules|`(↑17)=>`( ∀b∈ch,(b∈X.ex\/X.s₀.heap.objs.size<=b)/\b≠X.env.locals/\(∀x c,X.env.cells.lookup x=some c->c≠b)/\ ∀p∈X.pn++pins,p.1≠b)
local macro_rules|`(↑18)=>`(.tail _ (.tail _ (.tail _ (.tail _ (.tail _ (.tail _ (.tail _ (.tail _ (.head _)))))))))
local macro_rules|`(↑19)=>`(Wd X.g α S H)
local macro_rules|`(tactic|rw[21])=>`(tactic|refine wB (wP ?_))
local macro_rules|`(tactic|rw[22])=>`(tactic|intro pins s σ H Q I h)
local macro_rules|`(↑0)=>`(s.heap.objs.size)
local macro_rules|`(↑1)=>`(Inv X pins σ H s)
local macro_rules|`(↑2)=>`(S.length)
local macro_rules|`(↑3)=>`(model prog w)
local macro_rules|`(↑4)=>`(by decide)
local macro_rules|`(↑5)=>`(model X.prog X.w)
set_option maxRecDepth 100000
noncomputable section
set_option bootstrap.genMatcherCode false
open List (all_map drop_length ext_getElem? filterMap_cons filterMap_cons_some filter_congr filter_eq_self filter_filter filter_sublist find?_cons find?_some flatten_cons forIn_cons getD_eq_getElem?_getD getElem?_append_left getElem?_append_right getElem?_eq_none getElem?_eq_none_iff getElem?_map getElem?_of_mem getElem?_range getElem?_set_ne getElem?_set_self getElem?_take_of_lt getElem_drop getElem_inj getElem_mem getElem_of_mem getElem_take length_range length_zip length_zipIdx lookup_cons map_congr_left map_drop map_filterMap map_take mem_append_left mem_filterMap mem_map_of_mem mem_of_getElem? mem_of_mem_drop mem_of_mem_take mem_range nodup_append nodup_cons nodup_nil nodup_range of_mem_zip pairwise_append pairwise_cons pairwise_map pairwise_singleton perm_ext_iff_of_nodup replicate_succ reverse_cons set_append_left take_add_one take_length take_of_length_le take_sublist zipIdx_nil zip_cons_cons zip_nil_left)
open Nat (add_assoc le_of_eq le_of_lt le_succ lt_irrefl lt_of_le_of_lt lt_trans min_eq_left mod_lt mul_le_mul sub_self zero_le)
open Int (ofNat_lt)
abbrev à:=@Nat.le_refl
abbrev á:=@Array.length_toList
abbrev â:=@PySem.Heap.lt_size
abbrev ã:=@PySem.Heap.get?_push_size
abbrev ä:=@Nat.ne_of_lt
abbrev å:=@Option.some.inj
abbrev æ:=@List.mem_filter
abbrev ç:=@List.mem_append
abbrev è:=@List.getElem?_append_left
abbrev é:=@decide_eq_true_eq
abbrev ê:=@Nat.lt_of_lt_of_le
abbrev ë:=@List.mem_of_getElem?
abbrev ì:=@Nat.le_trans
abbrev í:=@List.map_cons
abbrev î:=@List.getElem?_map
abbrev ï:=@of_decide_eq_true
abbrev ð:=@List.getElem?_append_right
abbrev ñ:=@List.getElem?_set_ne
abbrev ò:=@List.length_range
abbrev ó:=@Array.getElem?_eq_getElem
abbrev ô:=@List.forall_mem_cons
abbrev õ:=@PySem.wpAny_call_entry
abbrev ö:=@PySem.Heap.get?_update_self
abbrev ø:=@Array.getElem?_toList
abbrev ù:=@PySem.Heap.get?_update_other
abbrev ú:=@List.mem_range
abbrev û:=@PySem.wpAny_holding
abbrev ü:=@Option.isSome_iff_exists
abbrev ý:=@PySem.sizeLine_eq
abbrev þ:=@List.mem_append_right
abbrev ÿ:=@List.length_filter_le
abbrev Ā:=@List.getElem?_set_self
abbrev ā:=@List.length_set
abbrev Ă:=@List.map_append
abbrev ă:=@List.all_eq_true
abbrev Ą:=@PySem.wpAny_newObj_type
abbrev ą:=@List.map_map
abbrev Ć:=@Classical.choose_spec
abbrev ć:=@PySem.Heap.SameBut.update
abbrev Ĉ:=@Bool.eq_iff_iff
abbrev ĉ:=@PySem.wpAny_truthy_bool
abbrev Ċ:=@PySem.wpAny_setState_of
abbrev ċ:=@PySem.wpAny_mono
abbrev Č:=@PySem.Around.under_plainId
abbrev č:=@List.length_drop
abbrev Ď:=@List.getElem?_eq_none
abbrev ď:=@PySem.wpAny_callSpecial?_slot
abbrev Đ:=@PySem.wpAny_loadPart_at
abbrev đ:=@PySem.codeAny_builtin
abbrev Ē:=@Int.toNat_natCast
abbrev ē:=@PySem.wpAny_field
abbrev Ĕ:=@Nat.ne_of_gt
abbrev ĕ:=@List.foldl_cons
abbrev Ė:=@Option.map_eq_some_iff
abbrev ė:=@Bool.not_eq_true'
abbrev Ę:=@List.getD_eq_getElem?_getD
abbrev ę:=@Nat.lt_succ_self
abbrev Ě:=@List.any_eq_true
abbrev ě:=@List.set_set
abbrev Ĝ:=@PySem.Heap.size_push
abbrev ĝ:=@Nat.lt_irrefl
abbrev Ğ:=@PySem.Heap.SameBut.refl
abbrev ğ:=@beq_eq_false_iff_ne
abbrev Ġ:=@List.mem_append_left
abbrev ġ:=@List.length_nil
abbrev Ģ:=@List.length_replicate
abbrev ģ:=@PySem.wpAny_isInstance
abbrev Ĥ:=@PySem.Obj.data_mapFields
abbrev ĥ:=@List.lookup_cons
abbrev Ħ:=@beq_iff_eq
abbrev ħ:=@PySem.wpAny_setField
abbrev Ĩ:=@List.getElem_mem
abbrev ĩ:=@PySem.wpAny_rule
abbrev Ī:=@List.zip_cons_cons
abbrev ī:=@PySem.plainId_quiet
abbrev Ĭ:=@List.contains_cons
abbrev ĭ:=@List.perm_ext_iff_of_nodup
abbrev Į:=@PyProof.Rows.slot_tuple_getitem
abbrev į:=@List.getElem?_eq_none_iff
abbrev İ:=@PySem.codeAny_mono
abbrev ı:=@PySem.wpAny_typeOf
abbrev Ĳ:=@Nat.zero_add
abbrev ĳ:=@List.mem_of_mem_take
abbrev Ĵ:=@PySem.wpAny_typeNameOfWhole_keyiter
abbrev ĵ:=@Int.eq_ofNat_of_zero_le
abbrev Ķ:=@PySem.wpAny_askSetting
abbrev ķ:=@PyProof.Rows.callWith_type1
abbrev ĸ:=@List.nodup_append
abbrev Ĺ:=@PySem.wpAny_passesOwn
abbrev ĺ:=@PySem.wpAny_specialOf
abbrev Ļ:=@PySem.Obj.isFreed_of_fields
abbrev ļ:=@PySem.builtinLookup_eq_fast
abbrev Ľ:=@Array.getElem?_eq_some_iff
abbrev ľ:=@PySem.F.slot_tuple_iterator_next
abbrev Ŀ:=@PySem.wpAny_pyIter_list
abbrev ŀ:=@List.any_eq_false
abbrev Ł:=@Array.toArray_toList
abbrev ł:=@Classical.byContradiction
abbrev Ń:=@List.getElem_of_mem
abbrev ń:=@PySem.isSubtype_type
abbrev Ņ:=@List.ext_getElem?
abbrev ņ:=@List.filterMap_cons_none
abbrev Ň:=@decide_eq_decide
abbrev ň:=@List.pairwise_map
abbrev ŉ:=@beq_self_eq_true
abbrev Ŋ:=@List.getElem?_take_of_lt
abbrev ŋ:=@List.filterMap_cons_some
abbrev Ō:=@PySem.wpAny_setEntries_of
abbrev ō:=@List.length_pos_iff
abbrev Ŏ:=@PySem.wpAny_getItem_str_slice
abbrev ŏ:=@decide_eq_false_iff_not
abbrev Ő:=@PySem.wpAny_execs_nil
abbrev ő:=@PySem.wpAny_Call_Name_kw
abbrev Œ:=@List.nil_append
abbrev œ:=@PySem.wpAny_setField_rec
abbrev Ŕ:=@List.take_of_length_le
abbrev ŕ:=@List.filter_congr
abbrev Ŗ:=@List.filter_eq_self
abbrev ŗ:=@List.replicate_succ
abbrev Ř:=@Nat.lt_of_le_of_lt
abbrev ř:=PySem.Shared
abbrev Ś:=PySem.Value
abbrev ś:=PySem.Program
def q8{n:Nat}:n<=n:=Nat.le_refl n
def xF0:¬(false=true):=Bool.false_ne_true
def t1M{A:Type}{b a:A}{l:List A}:a∈b::a::l:=.tail _ (.head _)
def t2M{A:Type}{c b a:A}{l:List A}:a∈c::b::a::l:=(.tail _ (.tail _ (.head _)))
def t3M{A:Type}{j b c a:A}{l:List A}:a∈j::b::c::a::l:=(.tail _ (.tail _ (.tail _ (.head _))))
abbrev dF0:=@decide_eq_false
abbrev dT0:=@decide_eq_true
abbrev iP:=@if_pos
abbrev iN0:=@if_neg
abbrev mC:=@List.mem_cons
abbrev lC0:=@List.length_cons
abbrev mO:=@List.mem_cons_of_mem
abbrev lM0:=@List.length_map
abbrev nM:=@List.not_mem_nil
abbrev mS:=@List.mem_singleton
abbrev mF0:=@List.mem_cons_self
abbrev fT0:=@Bool.false_eq_true
abbrev sA:=@List.size_toArray
abbrev lS:=@List.length_singleton
abbrev eL:=@Int.emod_lt_of_pos
abbrev eN:=@Int.emod_nonneg
abbrev aE:=@Bool.and_eq_true
abbrev iF:=@if_false
abbrev aN:=@List.append_nil
abbrev lA:=@List.length_append
abbrev gS:=@List.getElem?_eq_some_iff
abbrev gE:=@List.getElem?_eq_getElem
abbrev wB:=@PySem.wpAny_bind
abbrev wP:=@PySem.wpAny_pure
abbrev hP0:=@PySem.Heap.get?_push_of_some
abbrev mM0:=@List.mem_map
abbrev lT:=@List.length_take
abbrev aA:=@List.append_assoc
abbrev VP:=PySem.Value->PySem.Shared->Prop
abbrev O0:=PySem.W.Frag
abbrev N0:=List PySem.Expr
abbrev M0:=Option Int
abbrev L1:=List Bool
abbrev L0:=List (PySem.Addr×PySem.Obj)
abbrev K0:=Array (Int×PySem.Value)
abbrev G0:=PySem.Str->Option PySem.Value
abbrev D0:=List PySem.Str
abbrev B9:=List PySem.Addr
abbrev B0:=Array PySem.Value
abbrev A0:=List PySem.Value
abbrev Za:=List Int
abbrev Tk:=List (Int×Int)
abbrev Db:=List Nat
abbrev Ch:=List (List Nat)
set_option bootstrap.genMatcherCode true in
local macro_rules
 |`(#[0])=>`(by lia)
abbrev Ŝ:="_law_pool_here"
abbrev ŝ:="_law_tables_here"
abbrev Ş:="_law_well_here"
abbrev ş:="_law_script"
abbrev Š:="_law_cell"
abbrev š:="_law_k"
abbrev Ţ:="_law_book_here"
abbrev ţ:="_law_number"
abbrev Ť:="_law_many"
abbrev ť:="_law_there"
abbrev Ŧ:="_law_most"
abbrev ŧ:="_law_refused"
abbrev Ũ:="_law_found"
abbrev ũ:="_law_cells"
abbrev Ū:="_law_some"
abbrev ū:="_law_told"
abbrev Ŭ:="_law_way"
@[elab_as_elim]theorem qq{α:Sort u}{a b:α}{P:α->Prop}(h:a=b)(e:P b):P a:=h▸e
theorem byc{P:Prop}(h:(P->False)->False):P:=Classical.byContradiction h
section
variable{α β γ δ ε ζ η θ ι κ μ ν ξ π ρ:Type}{R:Prop}
theorem And.f{A B C:Prop}(h:A/\B/\C)(k:A->B->C->R):R:=h.elim λa h=>h.elim (k a)
theorem And.e{A B C D:Prop}(h:A/\B/\C/\D)(k:A->B->C->D->R):R:=h.elim λa h=>h.f (k a)
theorem And.h{A B C D E:Prop}(h:A/\B/\C/\D/\E)(k:A->B->C->D->E->R):R:=h.elim λa h=>h.e (k a)
theorem And.g{A B C D E F:Prop}(h:A/\B/\C/\D/\E/\F)(k:A->B->C->D->E->F->R):R:=h.elim λa h=>h.h (k a)
theorem And.u{A B C D E F G:Prop}(h:A/\B/\C/\D/\E/\F/\G)(k:A->B->C->D->E->F->G->R):R:=h.elim λa h=>h.g (k a)
theorem And.t{A B C D E F G H:Prop}(h:A/\B/\C/\D/\E/\F/\G/\H)(k:A->B->C->D->E->F->G->H->R):R:=h.elim λa h=>h.u (k a)
theorem And.s{A B C D E F G H I:Prop}(h:A/\B/\C/\D/\E/\F/\G/\H/\I)(k:A->B->C->D->E->F->G->H->I->R):R:=h.elim λa h=>h.t (k a)
theorem Exists.j{A:α->β->Prop}(h: ∃x y,A x y)(k: ∀x y,A x y->R):R:=h.elim λ_ h=>h.elim (k _)
theorem Exists.i{A:α->β->γ->Prop}(h: ∃x y z,A x y z)(k: ∀x y z,A x y z->R):R:=h.elim λ_ h=>h.j (k _)
theorem Exists.p{A:α->β->γ->δ->Prop}(h: ∃x y z u,A x y z u)(k: ∀x y z u,A x y z u->R):R:=h.elim λ_ h=>h.i (k _)
theorem Exists.m{A:α->β->γ->δ->ε->Prop}(h: ∃x y z u v,A x y z u v)(k: ∀x y z u v,A x y z u v->R):R:=h.elim λ_ h=>h.p (k _)
theorem Exists.w{A:α->β->γ->δ->ε->ζ->Prop}(h: ∃x y z u v w,A x y z u v w)(k: ∀x y z u v w,A x y z u v w->R):R:=h.elim λ_ h=>h.m (k _)
theorem Exists.x{A:α->β->γ->δ->ε->ζ->η->Prop}(h: ∃x y z u v w p,A x y z u v w p)(k: ∀x y z u v w p,A x y z u v w p->R):R:=h.elim λ_ h=>h.w (k _)
theorem Exists.v{A:α->β->γ->δ->ε->ζ->η->θ->ι->Prop}(h: ∃x y z u v w p q r,A x y z u v w p q r)(k: ∀x y z u v w p q r,A x y z u v w p q r->R):R:=h.elim λ_ h=>h.elim λ_ h=>h.x (k _ _)
theorem Exists.z{A:α->β->γ->δ->ε->ζ->η->θ->ι->κ->μ->ν->ξ->π->Prop}(h: ∃x y z u v w p q r s t a b c,A x y z u v w p q r s t a b c)(k: ∀x y z u v w p q r s t a b c,A x y z u v w p q r s t a b c->R):R:=h.elim λ_ h=>h.elim λ_ h=>h.elim λ_ h=>h.elim λ_ h=>h.elim λ_ h=>h.v (k _ _ _ _ _)
theorem Exists.y{A:α->β->γ->δ->ε->ζ->η->θ->ι->κ->μ->ν->ξ->π->ρ->Prop}(h: ∃x y z u v w p q r s t a b c d,A x y z u v w p q r s t a b c d)(k: ∀x y z u v w p q r s t a b c d,A x y z u v w p q r s t a b c d->R):R:=h.elim λ_ h=>h.z (k _)
theorem Exists.a{A B:α->Prop}(h: ∃x,A x/\B x)(k: ∀x,A x->B x->R):R:=h.elim λ_ h=>h.elim (k _)
theorem Exists.c{A B C:α->Prop}(h: ∃x,A x/\B x/\C x)(k: ∀x,A x->B x->C x->R):R:=h.elim λ_ h=>h.f (k _)
theorem Exists.d{A B:α->β->Prop}(h: ∃x y,A x y/\B x y)(k: ∀x y,A x y->B x y->R):R:=h.j λ_ _ h=>h.elim (k _ _)
theorem Exists.b{A B C:α->β->Prop}(h: ∃x y,A x y/\B x y/\C x y)(k: ∀x y,A x y->B x y->C x y->R):R:=h.j λ_ _ h=>h.f (k _ _)
theorem Exists.k{A B C D:α->β->Prop}(h: ∃x y,A x y/\B x y/\C x y/\D x y)(k: ∀x y,A x y->B x y->C x y->D x y->R):R:=h.j λ_ _ h=>h.e (k _ _)
theorem Exists.n{A B:α->β->γ->Prop}(h: ∃x y z,A x y z/\B x y z)(k: ∀x y z,A x y z->B x y z->R):R:=h.i λ_ _ _ h=>h.elim (k _ _ _)
theorem Exists.o{A B C D E:α->β->γ->Prop}(h: ∃x y z,A x y z/\B x y z/\C x y z/\D x y z/\E x y z)(k: ∀x y z,A x y z->B x y z->C x y z->D x y z->E x y z->R):R:=h.i λ_ _ _ h=>h.h (k _ _ _)
theorem Exists.r{A B:α->β->γ->δ->Prop}(h: ∃x y z u,A x y z u/\B x y z u)(k: ∀x y z u,A x y z u->B x y z u->R):R:=h.p λ_ _ _ _ h=>h.elim (k _ _ _ _)
theorem Exists.l{A B C D E:α->β->γ->δ->Prop}(h: ∃x y z u,A x y z u/\B x y z u/\C x y z u/\D x y z u/\E x y z u)(k: ∀x y z u,A x y z u->B x y z u->C x y z u->D x y z u->E x y z u->R):R:=h.p λ_ _ _ _ h=>h.h (k _ _ _ _)
theorem Exists.q{A B C D E F:α->β->γ->δ->Prop}(h: ∃x y z u,A x y z u/\B x y z u/\C x y z u/\D x y z u/\E x y z u/\F x y z u)(k: ∀x y z u,A x y z u->B x y z u->C x y z u->D x y z u->E x y z u->F x y z u->R):R:=h.p λ_ _ _ _ h=>h.g (k _ _ _ _)
theorem Z0{A B:α->Prop}(x)(h0:A x)(h1:B x): ∃x,A x/\B x:=⟨_,h0,h1⟩
theorem ZB{A B C:α->Prop}(x)(h0:A x)(h1:B x)(h2:C x): ∃x,A x/\B x/\C x:=⟨_,h0,h1,h2⟩
theorem Zb{A:α->β->Prop}(x y)(h:A x y): ∃x y,A x y:=⟨_,_,h⟩
theorem Zy{A B:α->β->Prop}(x y)(h0:A x y)(h1:B x y): ∃x y,A x y/\B x y:=⟨_,_,h0,h1⟩
theorem ZC{A B C:α->β->Prop}(x y)(h0:A x y)(h1:B x y)(h2:C x y): ∃x y,A x y/\B x y/\C x y:=⟨_,_,h0,h1,h2⟩
theorem Zr{A B C D:α->β->Prop}(x y)(h0:A x y)(h1:B x y)(h2:C x y)(h3:D x y): ∃x y,A x y/\B x y/\C x y/\D x y:=⟨_,_,h0,h1,h2,h3⟩
theorem YZ{A B C D E:α->β->Prop}(x y)(h0:A x y)(h1:B x y)(h2:C x y)(h3:D x y)(h4:E x y): ∃x y,A x y/\B x y/\C x y/\D x y/\E x y:=⟨_,_,h0,h1,h2,h3,h4⟩
theorem Zv{A:α->β->γ->Prop}(x y z)(h:A x y z): ∃x y z,A x y z:=⟨_,_,_,h⟩
theorem Zc{A B:α->β->γ->Prop}(x y z)(h0:A x y z)(h1:B x y z): ∃x y z,A x y z/\B x y z:=⟨_,_,_,h0,h1⟩
theorem Zq{A B C D:α->β->γ->Prop}(x y z)(h0:A x y z)(h1:B x y z)(h2:C x y z)(h3:D x y z): ∃x y z,A x y z/\B x y z/\C x y z/\D x y z:=⟨_,_,_,h0,h1,h2,h3⟩
theorem Zw{A:α->β->γ->δ->Prop}(x y z u)(h:A x y z u): ∃x y z u,A x y z u:=⟨_,_,_,_,h⟩
theorem Zp{A:α->β->γ->δ->ε->Prop}(x y z u v)(h:A x y z u v): ∃x y z u v,A x y z u v:=⟨_,_,_,_,_,h⟩
theorem YK{A:α->β->γ->δ->ε->ζ->Prop}(x y z u v w)(h:A x y z u v w): ∃x y z u v w,A x y z u v w:=⟨_,_,_,_,_,_,h⟩
theorem YE{A:α->β->γ->δ->ε->ζ->η->Prop}(x y z u v w p)(h:A x y z u v w p): ∃x y z u v w p,A x y z u v w p:=⟨_,_,_,_,_,_,_,h⟩
theorem YJ{A:α->β->γ->δ->ε->ζ->η->θ->ι->Prop}(x y z u v w p q r)(h:A x y z u v w p q r): ∃x y z u v w p q r,A x y z u v w p q r:=⟨_,_,_,_,_,_,_,_,_,h⟩
end
namespace L2
open PySem PySem.Spec PyProof.Rows
abbrev Key:=Sum Int Str
noncomputable def pQ:Key->Ś->Bool
 |.inl k,v=>Value.isInt k v
 |.inr x,v=>Value.isStrOf x v
noncomputable def Y5(w:World):Key->Int
 |.inl k=>hashInt k
 |.inr x=>hashStr w x
def zZ: ∀{k}{v},pQ k v=true->(∃i t,k=Sum.inl i/\v=Value.int i t)\/(∃x t,k=Sum.inr x/\v=Value.str x t)
 |.inl i,v,h=>by obtain⟨t,e⟩:=Value.isInt_shape h;exact .inl (Zy i t rfl e)
 |.inr x,v,h=>by obtain⟨t,e⟩:=Value.isStrOf_shape h;exact .inr (Zy x t rfl e)
def Yo(a b):decide ((Sum.inl a:Key)=Sum.inl b)=(a==b):=by
 by_cases e:a=b
 .subst e;simp
 .have h: ¬(Sum.inl a:Key)=Sum.inl b:=λq=>e (Sum.inl.inj q);rw[dF0 h];exact(ğ.mpr e).symm
def Yp(a b):decide ((Sum.inr a:Key)=Sum.inr b)=decide (a=b):=by
 by_cases e:a=b
 .subst e;simp
 .have h: ¬(Sum.inr a:Key)=Sum.inr b:=λq=>e (Sum.inr.inj q);rw[dF0 h,dF0 e]
def Yq(a)(b):decide ((Sum.inl a:Key)=Sum.inr b)=false:=dF0 (λq=>nomatch q)
def Yr(a)(b):decide ((Sum.inr a:Key)=Sum.inl b)=false:=dF0 (λq=>nomatch q)
def jM(prog)(w):PySem.KeyKind prog w Key where
 is:=pQ
 hash:=Y5 w
 inj:=λv a b ha hb=>by
  rcases zZ ha with⟨i,t,rfl,rfl⟩|⟨x,t,rfl,rfl⟩
  .rcases zZ hb with⟨j,u,rfl,e⟩|⟨y,u,rfl,e⟩
   .injection e with e1 _;rw[e1]
   .exact nomatch e
  .rcases zZ hb with⟨j,u,rfl,e⟩|⟨y,u,rfl,e⟩
   .exact nomatch e
   .injection e with e1 _;rw[e1]
 byValue:=λk v h=>by rcases zZ h with⟨i,t,rfl,rfl⟩|⟨x,t,rfl,rfl⟩<;>rfl
 pyHash:=λhv h=>by
  rcases zZ hv with⟨i,t,rfl,rfl⟩|⟨x,t,rfl,rfl⟩
  .exact wpAny_pyHash_int h
  .exact wpAny_pyHash_str h
 eqBool:=λhu hv h=>by
  rcases zZ hu with⟨i,t,rfl,rfl⟩|⟨x,t,rfl,rfl⟩
  .rcases zZ hv with⟨j,u,rfl,rfl⟩|⟨y,u,rfl,rfl⟩
   .rw[Yo]at h;exact wpAny_eqBool_int h
   .rw[Yq]at h;exact SeqAt.EqAt.int_str i t y u _ _ _ _ h
  .rcases zZ hv with⟨j,u,rfl,rfl⟩|⟨y,u,rfl,rfl⟩
   .rw[Yr]at h;exact SeqAt.EqAt.str_int x t j u _ _ _ _ h
   .rw[Yp]at h;exact wpAny_eqBool_str h
 «strs»:=λk x t v h=>by
  rcases zZ h with⟨i,u,rfl,e⟩|⟨y,u,rfl,e⟩
  .exact nomatch e
  .injection e with e1 _
   subst e1;cases v<;>rfl
def GQ(prog)(w)(i)(t):(jM prog w).is (.inl i) (.int i t)=true:=(show pQ (.inl i) (.int i t)=true by simp[pQ,Value.isInt])
def tK(prog)(w)(x)(t):(jM prog w).is (.inr x) (.str x t)=true:=(show pQ (.inr x) (.str x t)=true by simp[pQ,Value.isStrOf])
inductive V where
 |non|bl (b:Bool)|int (i:Int)|str (x:Str)|byt (b:Array UInt8)|flt (b:UInt64)|ref (a:Addr)|ty (n:String)
 deriving DecidableEq
def RelV:V->Ś->Prop
 |.non,u=>u=Value.none
 |.bl b,u=>u=Value.bool b
 |.int i,u=> ∃t,u=Value.int i t
 |.str x,u=> ∃t,u=Value.str x t
 |.byt b,u=> ∃t,u=Value.bytes b t
 |.flt b,u=> ∃t,u=Value.float b t
 |.ref a,u=>u=Value.ref a
 |.ty n,u=>u=Value.type n
abbrev Vals:List V->List Value->Prop:=Paired RelV
def Vals.length(r:Vals xs us):↑12=us.length:=Paired.length r
theorem Vals.get{xs}{j}(q:Vals xs j): ∀{i:Nat}{x},xs[i]? =some x-> ∃u,j[i]? =some u/\RelV x u:=by
 induction q with
 |nil=>intro i x e;cases e
 |cons r t ih=>
  intro i x e;cases i with
  |zero=>cases e;exact⟨_,rfl,r⟩
  |succ i=>exact ih e
theorem Vals.set(r:RelV x u): ∀{xs}{j} i ,Vals xs j->Vals (xs.set i x) (j.set i u)
 |_,_,_,.nil=>.nil
 |_,_,0,.cons _ t=>.cons r t
 |_,_,i+1,.cons q t=>.cons q (Vals.set r i t)
def Vals.append: ∀{xs k}{j m},Vals xs j->Vals k m->Vals (xs++k) (j++m):=λa=>by
 induction a with
 |nil=>exact(λs=>s)
 |cons r t ih=>exact(λs=>.cons r (ih s))
theorem Vals.take: ∀{xs}{j} n ,Vals xs j->Vals (xs.take n) (j.take n)
 |_,_,0,_=>.nil
 |_,_,_+1,.nil=>.nil
 |_,_,n+1,.cons r t=>.cons r (Vals.take n t)
theorem Vals.drop: ∀{xs}{j} n ,Vals xs j->Vals (xs.drop n) (j.drop n)
 |_,_,0,r=>r
 |_,_,_+1,.nil=>.nil
 |_,_,n+1,.cons _ t=>Vals.drop n t
theorem Vals.none_of: ∀{xs}{j}{i:Nat},Vals xs j->xs[i]? =none->j[i]? =none:=λ{xs j i} r e=>by have b:=r.length;have a:=į.mp e;exact į.mpr #[0]
def RelO:Option V->Option Ś->Prop
 |some v,some u=>RelV v u
 |none,none=>True
 |_,_=>False
def KV{a:Type}:List (a×V)->List (a×Ś)->Prop:=Paired λ(p:a×V) (q:a×Ś)=>p.1=q.1/\RelV p.2 q.2
noncomputable def kV:Key->V
 |.inl i=>.int i
 |.inr x=>.str x
inductive HO where
 |lst (xs:List V)
 |tup (xs:List V)
 |dK (kvs:List (Key×V))|dT (kvs:List (List Key×V))
 |set (S:Int->Bool) (n:Nat)
 |ins (C dx:Addr) (fs:List (Str×V))
 |own (x:Addr)
 |xd (fs:List (Str×V))
 |met (f x:Addr)
 |rng (lo hi:Int)
 |frz (o:Obj) (u:HO)
 |tbl (ps:B0)
 |ext (φ:Heap->Prop)
abbrev Hp:=Addr->Option HO
noncomputable def yV(H:Hp)(a:Addr)(o:HO):Hp:=λb=>if b=a then some o else H b
def zO:yV H a o a=some o:=by unfold yV;rw[iP rfl]
def zD(h:b≠a):yV H a o b=H b:=by unfold yV;rw[iN0 h]
theorem ZW:yV (yV H a o) a u=yV H a u:=by funext b;unfold yV;split<;>rfl
def zG{H:Hp}(h:H a=some o)(h':H b=none):a≠b:=by intro e;subst e;rw[h]at h';cases h'
def Y6(o:Obj)(u:Ś):Prop:= ∃a q t b,o.data=.fields a/\a[1]? =some (.str q t)/\u=.str q b
section
variable(P:ś)(w:World)
def ObjOk(H:Hp)(h:Heap)(a:Addr):HO->Prop
 |.lst xs=>xs.length<=sizeLine/\ ∃(j:A0)(n:Nat),Vals xs j/\h.get? a=some {cls:=.type "list",data:=.seq j.toArray n}
 |.tup xs=>xs.length<=sizeLine/\ ∃j:List Ś,Vals xs j/\IsTup h a j.toArray
 |.dK kvs=>kvs.length<=sizeLine/\(a==sysModules)=false/\ ∃vs,KV kvs vs/\h.DictOf (jM P w) a vs
 |.dT kvs=>kvs.length<=sizeLine/\(a==sysModules)=false/\ ∃xs:List (List Key×Addr×Ś),
   Paired (λ(p:List Key×V) (q:List Key×Addr×Ś)=>p.1=q.1/\H q.2.1=some (.tup (p.1.map kV))/\RelV p.2 q.2.2) kvs xs/\
   ∃o es I,h.get? a=some o/\o.ExactDict/\o.data=.dict es I/\es.toList=xs.map (entryOfKey (tupleKind (jM P w)))/\(xs.map (·.1)).Nodup
 |.set S n=>h.SetOf (intKind P w) a S n
 |.ins C dx fs=>H dx=some (.own a)/\fs.length<=1000/\dx≠a/\h.get? a=some (PySem.W.instObj C dx)/\
   ∃k,h.Ns1 dx k/\(∀f,RelO (fs.lookup f) (k f))/\PySem.Within k (fs.map (·.1))
 |.own _=> ∃o,h.get? a=some o
 |.xd fs=> ∃k,h.Ns1 a k/\ ∀f,RelO (fs.lookup f) (k f)
 |.rng lo hi=> ∃t u v,h.get? a=some {cls:=.type "range",data:=.fields #[.int lo t,.int hi u,.int 1 v]}
 |.frz o u=>h.get? a=some o/\ObjOk H h a u
 |.tbl ps=> ∃m,h.get? a=some {cls:=.none,data:=.fields m}/\(m=#[]\/ ∃c y,m=#[(ps[0]?).getD .none,(ps[1]?).getD .none,.ref c]/\H c=some (.frz y (.ext λh=>h.get? c=some y))/\Y6 y ((ps[2]?).getD .none))
 |.met f x=>h.get? a=some (PySem.W.methodObj (.ref f) (.ref x))
 |.ext φ=>φ h/\(∃o,h.get? a=some o)/\ ∀G B:Heap,φ G->(∀o,G.get? a=some o->B.get? a=some o)->φ B
def HOk(H:Hp)(h:Heap):Prop:= ∀a o,H a=some o->ObjOk P w H h a o
end
section
variable{a:Addr}{o:HO}
def ObjOk.lt(x:ObjOk P w H h a o):a<h.objs.size:=by
 cases o with
 |lst xs=>obtain⟨_,_,_,_,e⟩:=x;exact â e
 |tup xs=>obtain⟨_,_,_,p⟩:=x;exact p.lt
 |dK kvs=>obtain⟨_,_,_,_,o,_,_,e,_⟩:=x;exact â e
 |dT kvs=>obtain⟨_,_,_,_,o,_,_,e,_⟩:=x;exact â e
 |set S n=>refine x.r λo _ _ _ e _=>?_;exact â e
 |ins C dx fs=>refine x.h λ_ _ _ e _=>?_;exact â e
 |own y=>obtain⟨_,e⟩:=x;exact â e
 |xd fs=>obtain⟨_,⟨_,_,_,e,_⟩,_⟩:=x;exact â e
 |rng lo hi=>refine x.i λ_ _ _ e=>?_;exact â e
 |frz ob u=>obtain⟨e,_⟩:=x;exact â e
 |tbl ps=>refine x.a λ_ e _=>?_;exact â e
 |met f y=>exact â x
 |ext φ=>refine x.f λ_ b _=>?_;obtain ⟨_,e⟩:=b;exact â e
def Paired.mapP: ∀{l₁}{l₂:List β},Paired F l₁ l₂->(∀a b,F a b->G a b)->Paired G l₁ l₂:=λc=>by
 induction c with
 |nil=>exact(λ_=>.nil)
 |cons r t ih=>exact(λf=>.cons (f _ _ r) (ih f))
def ObjOk.stay(x:ObjOk P w H h a o)(k: ∀b u,(b=a\/H b=some (.own a))->h.get? b=some u->h'.get? b=some u)
  (ho: ∀b,H b=some (.own a)->H' b=some (.own a)) (ht: ∀b xs,H b=some (.tup xs)->H' b=some (.tup xs)) (hf:(∀b o u,H b=some (.frz o u)->H' b=some (.frz o u))):ObjOk P w H' h' a o:=by
 induction o with
 |lst xs=>obtain⟨z,m,n,r,e⟩:=x;exact⟨z,m,n,r,k _ _ (.inl rfl) e⟩
 |tup xs=>obtain⟨z,m,r,ob,e,c⟩:=x;exact⟨z,m,r,ob,k _ _ (.inl rfl) e,c⟩
 |dK kvs=>obtain⟨z,y,D,r,ob,es,j,e,c⟩:=x;exact⟨z,y,D,r,ob,es,j,k _ _ (.inl rfl) e,c⟩
 |dT kvs=>
  obtain⟨z,y,xs,r,ob,es,j,e,c⟩:=x;exact⟨z,y,xs,Paired.mapP r λp q z=>⟨z.1,ht _ _ z.2.1,z.2.2⟩,ob,es,j,k _ _ (.inl rfl) e,c⟩
 |set S n=>refine x.r λob es j t e c=>?_;exact Zw ob es j t ⟨k _ _ (.inl rfl) e,c⟩
 |ins C dx fs=>
  obtain⟨d,z,ne,e,A,⟨B,es,j,s,c⟩,r⟩:=x;exact⟨ho _ d,z,ne,k _ _ (.inl rfl) e,A,(Zc B es j (k _ _ (.inr d) s) c),r⟩
 |own y=>obtain⟨ob,e⟩:=x;exact⟨ob,k _ _ (.inl rfl) e⟩
 |xd fs=>obtain⟨A,⟨B,es,j,e,c⟩,r⟩:=x;exact Z0 A (Zc B es j (k _ _ (.inl rfl) e) c) r
 |rng lo hi=>refine x.i λt u v e=>?_;exact Zv t u v (k _ _ (.inl rfl) e)
 |frz ob u ih=>obtain⟨e,q⟩:=x;exact⟨k _ _ (.inl rfl) e,ih q⟩
 |tbl ps=>
  refine x.a λG e r=>?_;exact⟨G,k a _ (.inl rfl) e,r.imp id λ⟨c,I,F,s,E⟩=>(ZC c I F (hf _ _ _ s) E)⟩
 |met f y=>
  have e:h.get? a=some _:=x;show h'.get? a=some _;exact k a _ (.inl rfl) e
 |ext φ=>refine x.f λp J st=>?_;obtain ⟨o,e⟩:=J;exact⟨st _ _ p λo q=>k _ _ (.inl rfl) q,⟨o,k _ _ (.inl rfl) e⟩,st⟩
def HOk.lt(x:HOk P w H h)(e:H a=some o):a<h.objs.size:=(x a o e).lt
def HOk.fresh(x:HOk P w H h)(e:h.objs.size<=a):H a=none:=by
 cases q:H a with
 |none=>rfl
 |some u=>exact absurd (ê (x.lt q) e) (ĝ _)
def HOk.kept(x:HOk P w H h)(k:(∀b u,h.get? b=some u->h'.get? b=some u)):HOk P w H h':=λa o e=>
 (x a o e).stay (λb u _ q=>k b u q) (λ_ q=>q) (λ_ _ q=>q) λ_ _ _ q=>q
def HOk.laid(x:HOk P w H h)(k:(∀b u,h.get? b=some u->h'.get? b=some u))(s:h.objs.size<=a)(new:ObjOk P w (yV H a o) h' a o):HOk P w (yV H a o) h':=λb u e=>by
 have j:=x.fresh s;by_cases m:b=a
 .subst m;rw[zO]at e;cases e;exact new
 .rw[zD m]at e;exact(x b u e).stay (λc v _ q=>k c v q) (λc q=>by rw[zD (zG q j)];exact q) (λc xs q=>by rw[zD (zG q j)];exact q) λc ob xs q=>by rw[zD (zG q j)];exact q
end
def Rd(H:Hp)(a:Addr)(u:HO):Prop:=H a=some u\/ ∃o,H a=some (.frz o u)
def Rd.ok(r:Rd H a u)(x:HOk P w H h):ObjOk P w H h a u:=by
 rcases r with r|⟨o,r⟩
 .exact x a u r
 .obtain⟨_,q⟩:=x a _ r;exact q
def X8:Option HO->Prop
 |some (.lst _)=>True
 |some (.dK _)=>True
 |some (.dT _)=>True
 |some (.set _ _)=>True
 |some (.ins _ _ _)=>True
 |some (.ext _)=>True
 |_=>False
section
theorem HOk.write(ok:HOk P w H h)(m:X8 (H x))(B:e=x\/H e=some (.own x))(k: ∀b u,b≠e->h.get? b=some u->h'.get? b=some u)(A: ∃u,h'.get? e=some u)
  (new:ObjOk P w (yV H x o') h' x o'):HOk P w (yV H x o') h':=λb u q=>by
 have j: ∀c y,H c=some (.own y)->c≠x:=λc y r z=>by subst z;rw[r]at m;exact m
 by_cases s:b=x
 .subst s;rw[zO]at q;cases q;exact new
 .rw[zD s]at q;by_cases a:b=e
  .have C:H b=some (.own x):=by
    rcases B with z|z
    .exact absurd (a.trans z) s
    .rw[a];exact z
   rw[q]at C;cases C;obtain⟨v,D⟩:=A;exact⟨v,by rw[a];exact D⟩
  .refine(ok b u q).stay (λc v o r=>k c v ?_ r) (λc r=>by rw[zD (j c b r)];exact r) (λc xs r=>by rw[zD ((λc xs r z=>by subst z;rw[r]at m;exact m) c xs r)];exact r) λc ob v r=>by rw[zD λz=>by subst z;rw[r]at m;exact m];exact r
   rcases o with rfl|o
   .exact a
   .rintro rfl;rcases B with z|z
    .exact j c b o z
    .rw[o]at z;cases z;exact s rfl
end
structure Un(fs ex:B9)(H H':Hp)(h h':Heap):Prop where
 keep: ∀b o,h.get? b=some o->H b=none->b∉fs->b∉ex->h'.get? b=some o
 slot: ∀b o,h.get? b=some o->H b=none->b∈fs->b∉ex-> ∃sl,h'.get? b=some {o with slots:=sl}
 free: ∀b o,h.get? b=some o->H b=none->b∉ex->H' b=none
 there: ∀b o,h.get? b=some o->b∉ex-> ∃o',h'.get? b=some o'
 tups: ∀b xs,H b=some (.tup xs)->H' b=some (.tup xs)
 frzs: ∀b o u,H b=some (.frz o u)->H' b=some (.frz o u)
 tbls: ∀b ps,H b=some (.tbl ps)->H' b=some (.tbl ps)
section
variable{h:Heap}{a:Addr}
def Un.any(u:Un fs ex H H1 h h1)(q:h.get? b=some ob)(n:H b=none)(c:b∉ex): ∃sl,h1.get? b=some {ob with slots:=sl}:=by
 by_cases a:b∈fs
 .exact u.slot b ob q n a c
 .exact⟨_,u.keep b ob q n a c⟩
def Un.kept(k:(∀b u,h.get? b=some u->h'.get? b=some u)):Un fs ex H H h h':=
 ⟨λb ob q _ _ _=>k b ob q,λb ob q _ _ _=>⟨_,k b ob q⟩,λ_ _ _ n _=>n,λb ob q _=>⟨ob,k b ob q⟩,λ_ _ q=>q,λ_ _ _ q=>q,λ_ _ q=>q⟩
def Un.refl:Un fs ex H H h h:=Un.kept λ_ _ q=>q
def Un.laid(k:(∀b u,h.get? b=some u->h'.get? b=some u))(hp:h.objs.size<=a)(hn:H a=none):Un fs ex H (yV H a o) h h' where
 keep:=λb u q _ _ _=>k b u q
 slot:=λb u q _ _ _=>⟨_,k b u q⟩
 free:=λb u q n _=>by rw[zD (ä (ê (â q) hp))];exact n
 there:=λb u q _=>⟨u,k b u q⟩
 tups:=λb xs q=>by rw[zD (zG q hn)];exact q
 frzs:=λb u xs q=>by rw[zD (zG q hn)];exact q
 tbls:=λb ps q=>by rw[zD (zG q hn)];exact q
def Un.write(c:X8 (H x))(w:e=x\/H e=some (.own x))(k: ∀b u,b≠e->h.get? b=some u->h'.get? b=some u)(m: ∃u,h'.get? e=some u):Un fs ex H (yV H x o) h h':=by
 have v: ∀b,H b=none->b≠x:=λb n z=>by subst z;rw[n]at c;exact c
 have s: ∀b,H b=none->b≠e:=λb n z=>by
  subst z;rcases w with r|r
  .exact v b n r
  .rw[n]at r;cases r
 have j: ∀b u,H b=some u-> ¬X8 (some u)->b≠x:=λb u q nm z=>by subst z;rw[q]at c;exact nm c
 refine⟨λb u q n _ _=>k b u (s b n) q,λb u q n _ _=>⟨_,k b u (s b n) q⟩,λb u q n _=>by rw[zD (v b n)];exact n,λb u q _=>?_,
  λb xs q=>by rw[zD (j b _ q λz=>z)];exact q,λb u xs q=>by rw[zD (j b _ q λz=>z)];exact q,λb ps q=>by rw[zD (j b _ q λz=>z)];exact q⟩
 by_cases a:b=e
 .subst a;exact m
 .exact⟨u,k b u a q⟩
end
noncomputable def trk(h:Heap)(H:Hp):List Addr:=(List.range h.objs.size).filter λa=>(H a).isSome
def Dw(h:Heap)(H:Hp):Heap:=PySem.W.hideAll h (trk h H)
def Pr(e:(Dw h H).get? b=some o):h.get? b=some o/\H b=none:=by
 have a:=PySem.W.of_hideAll _ e;refine⟨a,?_⟩
 cases q:H b with
 |none=>rfl
 |some x=>
  have z:(Dw h H).get? b=none:=PySem.W.hideAll_none _ (æ.mpr ⟨ú.mpr (â a),by simp[q]⟩);rw[z]at e;cases e
noncomputable def Ps(g h:Heap)(L:Addr):List (Addr×Obj):=(List.range h.objs.size).filterMap λa=>if a=L\/(g.get? a).isSome=true then none else(h.get? a).map λo=>(a,o)
def rest(g h:Heap)(L d:Addr):List (Addr×Obj):=(Ps g h L).filter λp=>decide (p.1≠d)
structure Mod(K:O0)(mg:G0)(base:Heap):Prop where
 kin:K.In base
 glob:base.Ns mainGlobals mg
 blt: ∃mb,base.Ns builtinsNs mb/\ ∀x:Str,x≠"__name__"->mb x=bootBuiltins x
 nolimit:base.NoLimit
 bmain: ∃bm ob,mg "__builtins__"=some (.ref bm)/\bm≠builtinsNs/\base.get? bm=some ob/\ob.cls=.type "module"/\ob.dict=some builtinsNs/\ob.data=.plain
noncomputable def BM(P:ś):List (Str×Array Ś):=P.main.body.filterMap λ
 |.FunctionDef x _ body _ _ _ _ _ _ _=>body.findSome? λ
  |.FunctionDef n _ _ _ _ _ _ _ _ pos=>some (x,#[rawInt pos.line,rawInt pos.col,.str (x++".<locals>."++n) 0])
  |_=>none
 |_=>none
def tabAt(P:ś)(K:O0)(b:Addr):Option (Array Ś):=((BM P).find? λe=>(PySem.W.tabIn K e.1).map (·.2)==some b).map (·.2)
structure Bsz(P:ś)(K:O0)(base h:Heap)(H:Hp):Prop where
 le:base.objs.size<=h.objs.size
 tb: ∀b ps,tabAt P K b=some ps->H b=some (.tbl ps)
 cd: ∀e∈BM P, ∀c b,PySem.W.tabIn K e.1=some (c,b)->PySem.W.CodeHd base c b
structure Cx where
 prog:ś
 w:World
 K:PySem.W.Frag
 mg:Str->Option Ś
 base:Heap
 A:Around
 N:List Str
 s₀:ř
 H₀:Hp
 env:Env
 outer:List Env
 stack:List Env
 ex:List Addr
 fn:Str->Bool
 calm:Bool
 pn:List (Addr×Obj)
 xe:VP
noncomputable def MA(l:List Env):List Addr:=l.filterMap (·.frame)
abbrev Cx.fs(X:Cx):List Addr:=MA X.outer
def zCY(a:Scope)(x:Str):Prop:=a.names.lookup x=some .local\/a.names.lookup x=some .cell\/a.names.lookup x=some .free
def Loc(a:Scope)(x:Str):Prop:=a.names.lookup x=some .local\/a.names.lookup x=some .cell
def Look(env:Env)(h:Heap)(m:G0)(x:Str)(u:Ś):Prop:=
 (env.kindOf x=some .local/\m x=some u)\/((env.kindOf x=some .cell\/env.kindOf x=some .free)/\ ∃c,env.cells.lookup x=some c/\h.IsCell c (some u))
structure Cx.Ok(X:Cx):Prop where
 mod:Mod X.K X.mg X.base
 kind:X.env.scope.kind=.function
 glob:X.env.globals=mainGlobals
 blt:X.env.builtins=builtinsNs
 above:X.s₀.heap.objs.size<=X.env.locals
 inj: ∀x y c,X.env.cells.lookup x=some c->X.env.cells.lookup y=some c->x=y
 has: ∀x,(X.env.kindOf x=some .cell\/X.env.kindOf x=some .free)-> ∃c,X.env.cells.lookup x=some c
 cab: ∀x c,X.fn x=true->X.env.cells.lookup x=some c->X.s₀.heap.objs.size<=c
 hd:X.calm=true->X.A.handled=none
 frames:X.A.frames=some X.stack
 stk:X.stack=X.outer\/(X.stack=X.env::X.outer/\X.env.frame=some X.env.locals)
 exf: ∀b∈X.ex,b≠X.env.locals/\ ∀x c,X.env.cells.lookup x=some c->c≠b
 bs: ∀b o,X.base.get? b=some o->X.s₀.heap.get? b=some o/\X.H₀ b=none
 bsz:Bsz X.prog X.K X.base X.s₀.heap X.H₀
 noex: ∀b o,X.base.get? b=some o->b∉X.ex
 exfs: ∀b∈X.ex,b∉X.fs
 funs:X.s₀.heap.FunFrames X.base X.outer
 frf: ∀b∈X.fs,X.H₀ b=none
def FzC(H:Hp)(c:Addr):Prop:= ∃o,H c=some (.frz o (.ext λh=>h.get? c=some o))
structure Inv(X:Cx)(pins:L0)(σ:List (Option V))(H:Hp)(s:ř):Prop where
 ok:X.Ok
 os:s.os=X.s₀.os
 bare:AllBare s.gens
 base:Un X.fs X.ex X.H₀ H X.s₀.heap s.heap
 loc: ∃m,s.heap.Ns X.env.locals m/\ ∀(i:Nat)(x:Str)(v:V),X.N[i]? =some x->σ[i]? =some (some v)->zCY (X.env.scope) x-> ∃u,RelV v u/\Look X.env s.heap m x u
 cell: ∀x c,X.env.cells.lookup x=some c-> ∃v,s.heap.IsCell c v
 free:H X.env.locals=none
 freeC: ∀x c,X.env.cells.lookup x=some c->H c=none\/(X.fn x=false/\FzC H c)
 pin: ∀p∈X.pn++pins,s.heap.get? p.1=some p.2/\H p.1=none/\p.1≠X.env.locals/\p.1∉X.fs/\ ∀v,p.2.data≠.cell v
 hok:HOk X.prog X.w H s.heap
 len:σ.length=X.N.length
section
variable{X:Cx}{h':Heap}
def Cx.Ok.nofr(ok:X.Ok)(e:X.base.get? b=some o):b∉X.fs:=λa=>by have:=(ok.funs.mem a).1;rw[e]at this;cases this
def Inv.bs(I:↑1): ∀b o,X.base.get? b=some o->s.heap.get? b=some o/\H b=none:=λb o e=>
 ⟨I.base.keep b o (I.ok.bs b o e).1 (I.ok.bs b o e).2 (I.ok.nofr e) (I.ok.noex b o e),I.base.free b o (I.ok.bs b o e).1 (I.ok.bs b o e).2 (I.ok.noex b o e)⟩
def Inv.bk(I:↑1): ∀b o,X.base.get? b=some o->s.heap.get? b=some o:=λb o e=>(I.bs b o e).1
def Inv.mod(I:↑1):Mod X.K X.mg X.base:=I.ok.mod
def Inv.kIn(I:↑1):X.K.In s.heap:=I.ok.mod.kin.keeps I.bk
def Inv.lt(I:↑1):X.env.locals<s.heap.objs.size:=let ⟨_,a,_⟩:=I.loc;a.lt
def Inv.sz(I:↑1):X.s₀.heap.objs.size<=s.heap.objs.size:=ì I.ok.above (le_of_lt I.lt)
def Inv.bsz(I:↑1):Bsz X.prog X.K X.base s.heap H:=⟨ì I.ok.bsz.1 I.sz,λb ps e=>I.base.tbls b ps (I.ok.bsz.2 b ps e),I.ok.bsz.3⟩
def Inv.nofs(I:↑1){a:Addr}(h:↑0<=a):a∉X.fs:=λb=>by obtain⟨_,o,c,_⟩:=I.ok.funs.mem b;exact absurd (ê (â c) (ì I.sz h)) (ĝ _)
def Inv.cne(I:↑1): ∀x c,X.env.cells.lookup x=some c->c≠X.env.locals:=λx c e z=>by refine(I.cell x c e).d λv o j k=>?_;refine I.loc.a λm y _=>?_;obtain ⟨u,es,q,b,a,_⟩:=y;rw[z,b]at j;cases j;rw[a]at k;cases k
def Inv.funs(I:↑1):s.heap.FunFrames X.base X.outer:=by
 have all: ∀(l:List Env),(∀b∈MA l,b∈X.fs)->X.s₀.heap.FunFrames X.base l->s.heap.FunFrames X.base l:=by
  intro l
  induction l with
  |nil=>intro _ _;trivial
  |cons env r ih=>
   intro hs v;refine v.f λq y m=>?_;obtain ⟨L,o,a,u,w,k⟩:=y;have c:=hs L (by unfold MA;rw[filterMap_cons,a];exact mF0);obtain⟨sl,e⟩:=I.base.slot L o w (I.ok.frf L c) c λz=>I.ok.exfs L z c;exact⟨q,(Zr L _ a u e k),ih (λb j=>hs b (by unfold MA;rw[filterMap_cons,a];exact mO _ j)) m⟩
 exact all X.outer (λ_ j=>j) I.ok.funs
def Inv.stack(I:↑1):s.heap.FunFrames X.base X.stack:=by
 rcases I.ok.stk with e|⟨e,hf⟩
 .rw[e];exact I.funs
 .rw[e];refine I.loc.a λm a _=>?_;refine .cons (by rw[I.ok.kind];decide) hf a ?_ I.funs;exact Heap.get?_none_of_le (ì I.ok.bsz.1 I.ok.above)
def Inv.stkSub(I:↑1): ∀b∈MA X.stack,b∈X.env.locals::X.fs:=λb a=>by
 rcases I.ok.stk with e|⟨e,hf⟩
 .rw[e]at a;exact mO _ a
 .rw[e]at a;unfold MA at a;rw[filterMap_cons,hf]at a;exact a
def Inv.stkFree(I:↑1): ∀b∈MA X.stack,H b=none:=λb a=>by
 rcases mC.mp (I.stkSub b a)with e|a
 .rw[e];exact I.free
 .obtain⟨_,o,c,_⟩:=I.ok.funs.mem a;exact I.base.free b o c (I.ok.frf b a) λz=>I.ok.exfs b z a
def Inv.step{ch:B9}(I:↑1)
  (hch:↑17)
  (keep: ∀b o,b≠X.env.locals->b∉X.fs->b∉ch->s.heap.get? b=some o->H b=none->h'.get? b=some o)
  (slot: ∀b o,b≠X.env.locals->b∈X.fs->b∉ch->s.heap.get? b=some o->H b=none-> ∃sl,h'.get? b=some {o with slots:=sl}) (free: ∀b o,b∉ch->s.heap.get? b=some o->H b=none->H' b=none)
  (there: ∀b o,b∉ch->s.heap.get? b=some o-> ∃o',h'.get? b=some o')
  (tups: ∀b xs,H b=some (.tup xs)->H' b=some (.tup xs)) (frzs:(∀b o u,H b=some (.frz o u)->H' b=some (.frz o u))) (tbls: ∀b ps,H b=some (.tbl ps)->H' b=some (.tbl ps))
  (ns: ∀m,s.heap.Ns X.env.locals m->h'.Ns X.env.locals m) (hok:HOk X.prog X.w H' h') (hg:AllBare g'):
  Inv X pins σ H' {s with heap:=h',gens:=g',drawn:=d',toks:=t'}:=by
 have F: ∀b o,X.s₀.heap.get? b=some o->b≠X.env.locals:=λb o e=>ä (ê (â e) I.ok.above)
 have B: ∀b o,X.s₀.heap.get? b=some o->b∉X.ex->b∉ch:=λb o e a D=>by
  rcases (hch b D).1 with z|z
  .exact a z
  .exact absurd (ê (â e) z) (ĝ _)
 have y: ∀x c,X.env.cells.lookup x=some c-> ∀v,s.heap.IsCell c v->h'.IsCell c v:=λx c e v ⟨o,C,G⟩=>by
  have j:=λz=>(hch c z).2.2.1 x c e rfl;rcases I.freeC x c e with fr|⟨_,K,fr⟩
  .by_cases M:c∈X.fs
   .obtain⟨sl,q⟩:=slot c o (I.cne x c e) M j C fr;exact Z0 _ q G
   .exact⟨o,keep c o (I.cne x c e) M j C fr,G⟩
  .obtain⟨A,_⟩:=I.hok c _ fr;obtain⟨E,_⟩:=hok c _ (frzs c _ _ fr);rw[C]at A;cases A;exact Z0 _ E G
 refine⟨I.ok,I.os,hg,⟨λb o e n D a=>?_,λb o e n D a=>?_,λb o e n a=>?_,λb o e a=>?_,λb xs e=>tups b xs (I.base.tups b xs e),λb o xs e=>frzs b o xs (I.base.frzs b o xs e),λb ps e=>tbls b ps (I.base.tbls b ps e)⟩,?_,λx c e=>?_,?_,λx c e=>?_,λp L=>?_,hok,I.len⟩
 .exact keep b o (F b o e) D (B b o e a) (I.base.keep b o e n D a) (I.base.free b o e n a)
 .obtain⟨sl,A⟩:=I.base.slot b o e n D a;obtain⟨J,E⟩:=slot b _ (F b o e) D (B b o e a) A (I.base.free b o e n a);exact⟨J,E⟩
 .obtain⟨o',A⟩:=I.base.there b o e a;exact free b o' (B b o e a) A (I.base.free b o e n a)
 .obtain⟨o',A⟩:=I.base.there b o e a;exact there b o' (B b o e a) A
 .refine I.loc.a λm O P=>?_;refine Z0 m (ns m O) (λi x v A E N=>?_);refine(P i x v A E N).a λu r l=>?_;refine Z0 u r ?_;rcases l with l|⟨k,c,e,z⟩
  .exact .inl l
  .exact .inr ⟨k,c,e,y x c e _ z⟩
 .obtain⟨v,z⟩:=I.cell x c e;exact⟨v,y x c e v z⟩
 .refine I.loc.a λm Q _=>?_;obtain ⟨o,_,_,C,_⟩:=Q;exact free _ o (λz=>(hch _ z).2.1 rfl) C I.free
 .refine(I.cell x c e).d λv o C G=>?_;exact(I.freeC x c e).imp (free c o (λz=>(hch c z).2.2.1 x c e rfl) C) λ⟨nf,K,fr⟩=>⟨nf,K,frzs c _ _ fr⟩
 .refine(I.pin p L).h λe n ne nf d=>?_;have j:=λz=>(hch p.1 z).2.2.2 p L rfl;exact⟨keep p.1 p.2 ne nf j e n,free p.1 p.2 j e n,ne,nf,d⟩
def Inv.un(I:Inv X pins σ H s)(u:Un X.fs [] H H' s.heap h')(j:HOk X.prog X.w H' h'):Inv X pins σ H' {s with heap:=h',toks:=t'}:=by refine(id I.loc).a λm F _=>?_;obtain ⟨o,es,D,v,r⟩:=F;obtain⟨sl,B⟩:=u.any v I.free (by simp);exact I.step (ch:=[]) (λ_ z=>nomatch z) (λb o _ q _ e n=>u.keep b o e n q (by simp)) (λb o _ q _ e n=>u.slot b o e n q (by simp)) (λb o _ e n=>u.free b o e n (by simp)) (λb o _ e=>u.there b o e (by simp)) u.tups u.frzs u.tbls (λC y=>by refine y.n λE k c a A=>?_;rw[v]at a;cases a;exact Zc _ k c B A) j I.bare
def Inv.call(I:↑1)(u:Un (MA X.stack) ch H H' s.heap h')(q:HOk X.prog X.w H' h')(D:AllBare g')
  (hch:↑17):
  Inv X pins σ H' {s with heap:=h',gens:=g',drawn:=d',toks:=t'}:=by
 refine(id I.loc).a λm K _=>?_;obtain ⟨o,es,G,A,r⟩:=K;obtain⟨sl,k⟩:=u.any A I.free λz=>(hch _ z).2.1 rfl;exact I.step hch (λb o k E a e n=>u.keep b o e n (λz=>(mC.mp (I.stkSub b z)).elim k E) a) (λb o _ _ a e n=>u.any e n a) (λb o a e n=>u.free b o e n a) (λb o a e=>u.there b o e a) u.tups u.frzs u.tbls (λF B=>by refine B.n λJ v y j C=>?_;rw[A]at j;cases j;exact Zc _ v y k C) q D
def Inv.turned(I:↑1)(k: ∀b o,b≠it->s.heap.get? b=some o->h'.get? b=some o)(A:H it=none)(w:it≠X.env.locals)
  (h1:it∈X.ex\/X.s₀.heap.objs.size<=it) (h2: ∀x c,X.env.cells.lookup x=some c->c≠it) (h3: ∀p∈X.pn++pins,p.1≠it):Inv X pins σ H {s with heap:=h',toks:=t'}:=by
 have j: ∀b u,H b=some u->b≠it:=λb u e z=>by rw[z,A]at e;cases e
 refine I.step (ch:=[it]) (λb C=>?_) (λb o _ _ a e _=>k b o (λz=>a (by simp[z])) e) (λb o _ _ a e _=>⟨_,k b o (λz=>a (by simp[z])) e⟩) (λ_ _ _ _ n=>n)
  (λb o a e=>⟨o,k b o (λz=>a (by simp[z])) e⟩) (λ_ _ e=>e) (λ_ _ _ e=>e) (λ_ _ e=>e) (λm y=>?_) (λb u e=>?_) I.bare
 .have e:=by simpa using C
  cases e;exact⟨h1,w,h2,h3⟩
 .refine y.n λo es B D r=>?_;exact Zc o es B (k _ o (Ne.symm w) D) r
 .refine(I.hok b u e).stay (λc v a q=>k c v ?_ q) (λ_ q=>q) (λ_ _ q=>q) λ_ _ _ q=>q;rcases a with z|z
  .rw[z];exact j b u e
  .exact j c _ z
def Inv.tok(I:↑1)(t):Inv X pins σ H {s with toks:=t}:=I.un Un.refl I.hok
def Inv.kept(I:↑1)(k: ∀b u,s.heap.get? b=some u->h'.get? b=some u):Inv X pins σ H {s with heap:=h',toks:=t'}:=I.un (Un.kept k) (I.hok.kept k)
def Inv.laid{a:Addr}(I:↑1)(k: ∀b u,s.heap.get? b=some u->h'.get? b=some u)(c:↑0<=a)(new:ObjOk X.prog X.w (yV H a o) h' a o):
  Inv X pins σ (yV H a o) {s with heap:=h',toks:=t'}:=I.un (Un.laid k c (I.hok.fresh c)) (I.hok.laid k c new)
def Inv.write(I:↑1)(c:X8 (H x))(j:e=x\/H e=some (.own x))(k: ∀b u,b≠e->s.heap.get? b=some u->h'.get? b=some u)(a: ∃u,h'.get? e=some u)
  (new:ObjOk X.prog X.w (yV H x o) h' x o):Inv X pins σ (yV H x o) {s with heap:=h',toks:=t'}:=I.un (Un.write c j k a) (I.hok.write c j k a new)
def Inv.pins_of(I:↑1)(h: ∀p∈pins',s.heap.get? p.1=some p.2/\H p.1=none/\p.1≠X.env.locals/\p.1∉X.fs/\ ∀v,p.2.data≠.cell v):Inv X pins' σ H s:=
 ⟨I.ok,I.os,I.bare,I.base,I.loc,I.cell,I.free,I.freeC,λp a=>(ç.mp a).elim (λz=>I.pin p (Ġ _ z)) (h p),I.hok,I.len⟩
def IQ{N:D0}(c:N.Nodup){i:Nat}(a:N[i]? =some x)(b:N[j]? =some x):i=j:=by obtain⟨q,m⟩:=gS.mp a;obtain⟨o,k⟩:=gS.mp b;exact(getElem_inj c).mp (m.trans k.symm)
abbrev Q2(X:Cx)(x:Str):Prop:=X.fn x=true\/X.env.scope.names.lookup x=some .local
def MZ(I:↑1)(hN:X.N.Nodup)(hi:X.N[i]? =some x)(F:Loc (X.env.scope) x)(r:RelV v u)
  (h: ∀s',Inv X pins (σ.set i (some v)) H s'->(∃a,Heap.SameBut a s.heap s'.heap/\(a=X.env.locals\/X.env.cells.lookup x=some a))->Q () s') (hf:Q2 X x:=by first |exact .inl rfl|exact .inr rfl|assumption):wpAny M A (storeName X.env x u) Q E s:=by
 refine(id I.loc).a λm hn hl=>?_;have L:i<σ.length:=by rw[I.len];exact(gS.mp hi).1
 have cne:=I.cne
 have B: ∀{a:Addr}{h':Heap},(∃o,s.heap.get? a=some o/\H a=none)->Heap.SameBut a s.heap h'->HOk X.prog X.w H h':=λ{a h'} ha hs b ob e=>by
  obtain⟨_,_,G⟩:=ha;refine(I.hok b ob e).stay (λc Z D q=>(hs.2 c ?_).trans q) (λ_ q=>q) (λ_ _ q=>q) λ_ _ _ q=>q;rintro rfl;rcases D with rfl|D
  .rw[G]at e;cases e
  .rw[G]at D;cases D
 rcases F with hk|hk
 .refine wpAny_storeName_local hk hn (λh' ab hs=>?_) (by rw[I.ok.kind];rfl);refine(id hn).n λoL _ _ aa _=>?_;refine h _ ⟨I.ok,I.os,I.bare,⟨λb o e n P F=>?_,λb o e n P F=>?_,I.base.free,λb o e F=>?_,I.base.tups,I.base.frzs,I.base.tbls⟩,(Z0 _ ab (λj y v' C J e3=>?_)),λy c e=>?_,I.free,I.freeC,λp hp=>?_,B (Z0 oL aa I.free) hs,by simpa using I.len⟩ ⟨_,hs,.inl rfl⟩
  .exact(hs.2 b (ä (ê (â e) I.ok.above))).trans (I.base.keep b o e n P F)
  .obtain⟨sl,C⟩:=I.base.slot b o e n P F;exact⟨sl,(hs.2 b (ä (ê (â e) I.ok.above))).trans C⟩
  .obtain⟨o',C⟩:=I.base.there b o e F;exact⟨o',(hs.2 b (ä (ê (â e) I.ok.above))).trans C⟩
  .by_cases O:j=i
   .subst O;rw[hi]at C;cases C;rw[Ā L]at J;cases J;exact Z0 u r (.inl ⟨hk,by simp⟩)
   .rw[ñ (Ne.symm O)]at J;refine(hl j y v' C J e3).a λu' r' q=>?_;refine⟨u',r',?_⟩;rcases q with⟨k,e⟩|⟨k,c,e,z⟩
    .refine .inl ⟨k,?_⟩;have:y≠x:=λe=>O (IQ hN C (e▸hi));simp[this,e]
    .exact .inr ⟨k,c,e,z.sameBut hs (cne y c e)⟩
  .obtain⟨Z,z⟩:=I.cell y c e;exact⟨Z,z.sameBut hs (cne y c e)⟩
  .refine(I.pin p hp).h λe n ne nf d=>?_;exact⟨(hs.2 p.1 ne).trans e,n,ne,nf,d⟩
 .have K:X.fn x=true:=by
   rcases hf with z|z
   .exact z
   .rw[z]at hk;cases hk
  obtain⟨c,D⟩:=I.ok.has x (.inl hk);obtain⟨Z,z⟩:=I.cell x c D;refine wpAny_storeName_cell I.ok.kind hk D z (λh' T hs=>?_);refine(id z).a λoc S W=>?_;refine h {s with heap:=h'} ⟨I.ok,I.os,I.bare,⟨λb o e n P F=>?_,λb o e n P F=>?_,I.base.free,λb o e F=>?_,I.base.tups,I.base.frzs,I.base.tbls⟩,(Z0 m (hn.sameBut hs (Ne.symm (cne x c D))) (λj y v' C J e3=>?_)),λy Y e=>?_,I.free,I.freeC,λp hp=>?_,B ⟨oc,S,(I.freeC x c D).resolve_right λz=>by rw[K]at z;cases z.1⟩ hs,by simpa using I.len⟩ ⟨c,hs,.inr D⟩
  .exact(hs.2 b (ä (ê (â e) (I.ok.cab x c K D)))).trans (I.base.keep b o e n P F)
  .obtain⟨sl,C⟩:=I.base.slot b o e n P F;exact⟨sl,(hs.2 b (ä (ê (â e) (I.ok.cab x c K D)))).trans C⟩
  .obtain⟨o',C⟩:=I.base.there b o e F;exact⟨o',(hs.2 b (ä (ê (â e) (I.ok.cab x c K D)))).trans C⟩
  .by_cases O:j=i
   .subst O;rw[hi]at C;cases C;rw[Ā L]at J;cases J;exact Z0 u r (.inr ⟨.inl hk,c,D,T⟩)
   .rw[ñ (Ne.symm O)]at J;refine(hl j y v' C J e3).a λu' r' q=>?_;refine⟨u',r',?_⟩;rcases q with q|⟨k,Y,e,z'⟩
    .exact .inl q
    .refine .inr ⟨k,Y,e,z'.sameBut hs ?_⟩;rintro rfl;exact O (IQ hN C (I.ok.inj _ _ _ e D▸hi))
  .by_cases U:Y=c
   .subst U;exact⟨_,T⟩
   .obtain⟨w2,z2⟩:=I.cell y Y e;exact⟨w2,z2.sameBut hs U⟩
  .refine(I.pin p hp).h λe n ne nf d=>?_;refine⟨(hs.2 p.1 ?_).trans e,n,ne,nf,d⟩;intro q;rw[q,S]at e;exact d Z (by rw[<-(å e)];exact W)
def IR(I:↑1)(a:X.N.Nodup)(hi:X.N[i]? =some x)(c:Loc (X.env.scope) x)(r:RelV v u)
  (h: ∀j,Inv X pins (σ.set i (some v)) H j->Q () j) (hf:Q2 X x:=by first |exact .inl rfl|exact .inr rfl|assumption):wpAny M A (storeName X.env x u) Q E s:=
 MZ I a hi c r (λj b _=>h j b) hf
def Inv.call'(I:↑1)(k:s'.os=s.os)(u:Un (MA X.stack) ch H H' s.heap s'.heap)(a:HOk X.prog X.w H' s'.heap)(j:AllBare s'.gens)
  (hch:↑17):Inv X pins σ H' s':=by
 obtain⟨h',m,o,q,v⟩:=s';subst k;exact I.call u a j hch
end
abbrev XK:=Value->Option Addr->Hp->Prop
abbrev St:=List (Option V)
abbrev VK:=V->Hp->Prop
abbrev TE:=St->Hp->VK->Prop
abbrev TT:=St->Hp->(Bool->Hp->Prop)->Prop
abbrev TA:=St->Hp->(List V->Hp->Prop)->Prop
structure Ends where
 nx:St->Hp->Prop
 rt:VK
 bk:St->Hp->Prop:=λ_ _=>False
 ct:St->Hp->Prop:=λ_ _=>False
abbrev TS:=Ends->St->Hp->Prop
def EP(X:Cx)(pins:L0)(σ:St)(Q:VK)(u:Ś)(a:ř):Prop:= ∃v H',Inv X pins σ H' a/\RelV v u/\Q v H'
def TP(X:Cx)(pins:L0)(σ:St)(Q:Bool->Hp->Prop)(b:Bool)(a:ř):Prop:= ∃H',Inv X pins σ H' a/\Q b H'
def AP(X:Cx)(pins:L0)(σ:St)(Q:List V->Hp->Prop)(b:A0)(c:ř):Prop:= ∃a H',Inv X pins σ H' c/\Vals a b/\Q a H'
def SP(X:Cx)(pins:L0)(D:Ends)(f:Flow)(b:ř):Prop:=
 match f with
 |.next=> ∃a H',Inv X pins a H' b/\D.nx a H'
 |.brk=> ∃a H',Inv X pins a H' b/\D.bk a H'
 |.cont=> ∃a H',Inv X pins a H' b/\D.ct a H'
 |.ret u=> ∃v a H',Inv X pins a H' b/\RelV v u/\D.rt v H'
def PE(X:Cx)(e:Expr)(t:TE):Prop:=
 ∀(pins:L0)(s:ř)(σ:St)(H:Hp)(Q:VK),Inv X pins σ H s->t σ H Q->wpAny ↑5 X.A (eval e X.env) (EP X pins σ Q) X.xe s
def PT(X:Cx)(e:Expr)(t:TT):Prop:=
 ∀(pins:L0)(s:ř)(σ:St)(H:Hp)(Q:Bool->Hp->Prop),Inv X pins σ H s->t σ H Q->wpAny ↑5 X.A (isTrue e X.env (eval e X.env)) (TP X pins σ Q) X.xe s
def PW(X:Cx)(e:Expr)(t:TT):Prop:=
 ∀(a:Sem Ś)(pins:L0)(s:ř)(σ:St)(H:Hp)(Q:Bool->Hp->Prop),Inv X pins σ H s->t σ H Q->wpAny ↑5 X.A (isTrue e X.env a) (TP X pins σ Q) X.xe s
def PW.pt(h:PW X e t):PT X e t:=h _
def PA(X:Cx)(es:N0)(t:TA):Prop:=
 ∀(pos:Pos)(pins:L0)(s:ř)(σ:St)(H:Hp)(Q:List V->Hp->Prop),Inv X pins σ H s->t σ H Q->wpAny ↑5 X.A (spliced (backTo pos (starEach es X.env))) (AP X pins σ Q) X.xe s
def PS(X:Cx)(st:Stmt)(t:TS):Prop:=
 ∀(pins:L0)(s:ř)(σ:St)(H:Hp)(D:Ends),Inv X pins σ H s->t D σ H->wpAny ↑5 X.A (exec st X.env) (SP X pins D) X.xe s
def PSs(X:Cx)(st:List Stmt)(t:TS):Prop:=
 ∀(pins:L0)(s:ř)(σ:St)(H:Hp)(D:Ends),Inv X pins σ H s->t D σ H->wpAny ↑5 X.A (execs st X.env) (SP X pins D) X.xe s
def xV(h:wpAny M A t Q E s)(b: ∀a s,Q a s->Q' a s):wpAny M A t Q' E s:=ċ h b λ_ _ x=>x
section
variable{X:Cx}
def Y7(i:Nat):TE:=λσ H Q=> ∃v,σ[i]? =some (some v)/\Q v H
def tC(v:V):TE:=λ_ H Q=>Q v H
def Ip:PE X (.Constant (.int i) j pos) (tC (.int i)):=λ_ _ _ H _ I h=>wpAny_Constant_int (ZC (.int i) H (I.tok _) ⟨_,rfl⟩ h)
def Y8:PE X (.Constant (.bool b) j pos) (tC (.bl b)):=λ_ _ _ H _ I h=>Constant_bool (ZC (.bl b) H I rfl h)
def Gl(X:Cx)(x:Str):Prop:=X.env.kindOf x=some .globalImplicit
def vK(I:↑1)(b:Gl X x)(a:X.mg x=some u)(h:Q u s)
  (hd:(x==("__debug__"))=false:=by decide):wpAny ↑5 X.A (eval (.Name x pos) X.env) Q E s:=
 Calls.Name_function_global I.ok.kind b (Calls.loadGlobal_global (by rw[I.ok.glob];exact I.mod.glob.keeps I.bk) a h) hd
def ER{E:VP}{pos:Pos}(I:↑1)(b:Gl X x)(j:X.mg x=none)(k:bootBuiltins x=some u)(h:Q u s)
  (hn:x≠"__name__":=by decide) (hd:(x==("__debug__"))=false:=by decide):wpAny ↑5 X.A (eval (.Name x pos) X.env) Q E s:=by
 refine I.mod.blt.a λm c a=>?_;exact Calls.Name_function_global I.ok.kind b (Calls.loadGlobal_builtin (by rw[I.ok.glob];exact I.mod.glob.keeps I.bk) j (by rw[I.ok.blt];exact c.keeps I.bk) ((a x hn).trans k) h) hd
def ZX(a:Gl X x)(b:X.mg x=some u)(r:RelV v u)(c:(x==("__debug__"))=false:=by decide):PE X (.Name x pos) (tC v):=
 λ_ _ _ H _ I h=>vK I a b (ZC v H I r h) c
def ZY{pos:Pos}(b:Gl X x)(c:X.mg x=none)(j:bootBuiltins x=some u)(r:RelV v u)(a:x≠"__name__":=by decide)(k:(x==("__debug__"))=false:=by decide):PE X (.Name x pos) (tC v):=
 λ_ _ _ H _ I h=>ER I b c j (ZC v H I r h) a k
variable{rest:N0}
def tAnd(t u:TT):TT:=λσ H Q=>t σ H λc a=>if c=true then u σ a Q else Q false a
def tOr(t u:TT):TT:=λσ H Q=>t σ H λc a=>if c=true then Q true a else u σ a Q
def tNot(t:TT):TT:=λσ H Q=>t σ H λc a=>Q (!c) a
def Pt(b:PT X a tA):PW X (.BoolOp .And [a] pos) tA:=by
 intro k pins s σ H Q I h;refine isTrue_and (xV (b pins s σ H Q I h) λc j e=>?_)
 cases c with
 |true=>exact isTrue_and_nil e
 |false=>exact e
def Yv(b:PT X a tA):PW X (.BoolOp .Or [a] pos) tA:=by
 intro k pins s σ H Q I h;refine isTrue_or (xV (b pins s σ H Q I h) λc j e=>?_)
 cases c with
 |false=>exact isTrue_or_nil e
 |true=>exact e
def Yw(o:PT X a tA)(q:PW X (.BoolOp .And (b::rest) pos) tB'):PW X (.BoolOp .And (a::b::rest) pos) (tAnd tA tB'):=by
 intro u pins s σ H Q I h;refine isTrue_and (xV (o pins s σ H _ I h) λc m ⟨j,I1,k⟩=>?_)
 cases c with
 |true=>exact q u pins m σ j Q I1 k
 |false=>exact⟨j,I1,k⟩
def Y9(o:PT X a tA)(q:PW X (.BoolOp .Or (b::rest) pos) tB'):PW X (.BoolOp .Or (a::b::rest) pos) (tOr tA tB'):=by
 intro u pins s σ H Q I h;refine isTrue_or (xV (o pins s σ H _ I h) λc m ⟨j,I1,k⟩=>?_)
 cases c with
 |true=>exact⟨j,I1,k⟩
 |false=>exact q u pins m σ j Q I1 k
def Z1(b j:TE):TE:=λσ H Q=>b σ H λx a=> ∃c,x=.bl c/\if c=true then j σ a Q else Q (.bl false) a
def tOrV(b j:TE):TE:=λσ H Q=>b σ H λx a=> ∃c,x=.bl c/\if c=true then Q (.bl true) a else j σ a Q
def Z2(a:TE):TE:=λσ H Q=>a σ H λx b=> ∃c,x=.bl c/\Q (.bl (!c)) b
def Yz(q:PE X a ta)(u:PE X (.BoolOp .And (b::rest) pos) tb):PE X (.BoolOp .And (a::b::rest) pos) (Z1 ta tb):=by
 rw[22];refine BoolOp_and (xV (q pins s σ H _ I h) λv o ⟨x,k,I1,m,j⟩=>?_);obtain⟨c,rfl,j⟩:=j;subst m;refine ĉ ?_
 cases c with
 |true=>exact u pins o σ k Q I1 j
 |false=>exact ZC (.bl false) k I1 rfl j
def Z3(q:PE X a ta)(u:PE X (.BoolOp .Or (b::rest) pos) tb):PE X (.BoolOp .Or (a::b::rest) pos) (tOrV ta tb):=by
 rw[22];refine BoolOp_or (xV (q pins s σ H _ I h) λv o ⟨x,k,I1,m,j⟩=>?_);obtain⟨c,rfl,j⟩:=j;subst m;refine ĉ ?_
 cases c with
 |false=>exact u pins o σ k Q I1 j
 |true=>exact ZC (.bl true) k I1 rfl j
end
def SqL(K:O0)(H:Hp)(a:Addr)(xs:List V):Prop:=
 Rd H a (.lst xs)\/
  ∃(o:Obj)(b:B0)(n:Nat),K.lookup a=some o/\o.cls=.type "list"/\o.dict=none/\o.data=.seq b n/\b.size<=sizeLine/\Vals xs b.toList
def SqT(K:O0)(H:Hp)(a:Addr)(xs:List V):Prop:=
 Rd H a (.tup xs)\/
  ∃(o:Obj)(b:B0)(n:Nat),K.lookup a=some o/\o.cls=.type "tuple"/\o.data=.seq b n/\b.size<=sizeLine/\Vals xs b.toList
noncomputable def absV:Ś->Option V
 |.none=>some .non
 |.bool b=>some (.bl b)
 |.int i _=>some (.int i)
 |.str x _=>some (.str x)
 |.bytes b _=>some (.byt b)
 |.float b _=>some (.flt b)
 |.ref a=>some (.ref a)
 |.type n=>some (.ty n)
 |_=>none
theorem RelV.abs(r:RelV x u):absV u=some x:=by
 cases x with
 |non=>subst r;rfl
 |bl _=>subst r;rfl
 |int _=>obtain⟨t,rfl⟩:=r;rfl
 |str _=>obtain⟨t,rfl⟩:=r;rfl
 |byt _=>obtain⟨t,rfl⟩:=r;rfl
 |flt _=>obtain⟨t,rfl⟩:=r;rfl
 |ref _=>subst r;rfl
 |ty _=>subst r;rfl
def RelV.inj(r:RelV x u)(q:RelV y u):x=y:=å (r.abs.symm.trans q.abs)
theorem Vals.inj{xs}{j}(h:Vals xs j): ∀{k},Vals k j->xs=k:=by
 induction h with
 |nil=>intro k h;cases h;rfl
 |cons r t i=>intro k h;cases h with|cons a b=>rw[r.inj a,i b]
section
def SqL.of{K:O0}(h:H a=some (.lst xs)):SqL K H a xs:=.inl (.inl h)
def SqT.of{K:O0}(h:H a=some (.tup xs)):SqT K H a xs:=.inl (.inl h)
theorem Inv.list(I:↑1)(h:SqL X.K H a xs): ∃j:List Ś,Vals xs j/\PlainL s.heap a j.toArray/\↑12<=sizeLine:=by
 rcases h with h|⟨o,j,n,hk,hc,hd,hs,hz,r⟩
 .obtain⟨z,j,n,r,e⟩:=h.ok I.hok;exact ZB j r (Zr _ n e rfl rfl rfl) z
 .refine(ZB _ r (Zr o n (I.kIn a o hk) hc hd (by simpa using hs)) ?_);have e:=r.length;simp only[á]at e
  lia
theorem Inv.tuple(I:↑1)(h:SqT X.K H a xs): ∃j:List Ś,Vals xs j/\IsTup s.heap a j.toArray/\↑12<=sizeLine:=by
 rcases h with h|⟨o,j,n,hk,hc,hs,hz,r⟩
 .obtain⟨z,j,r,p⟩:=h.ok I.hok;exact ZB j r p z
 .refine(ZB _ r ⟨o,I.kIn a o hk,hc,n,by simpa using hs⟩ ?_);have e:=r.length;simp only[á]at e
  lia
def Inv.list_inj(I:↑1)(h:SqL X.K H a xs)(h':SqL X.K H a ys):xs=ys:=by
 refine(I.list h).c λk r v _=>?_;obtain ⟨o,n,e,_,_,d⟩:=v;refine(I.list h').c λb m y _=>?_;obtain ⟨q,u,c,_,_,j⟩:=y;rw[e]at c;cases c;rw[d]at j;injection j with d1 _
 have:=by simpa using congrArg Array.toList d1
 subst this;exact r.inj m
def Inv.tuple_inj(I:↑1)(h:SqT X.K H a xs)(h':SqT X.K H a ys):xs=ys:=by
 refine(I.tuple h).c λk r v _=>?_;obtain ⟨o,e,_,n,d⟩:=v;refine(I.tuple h').c λb m y _=>?_;obtain ⟨q,c,_,u,j⟩:=y;rw[e]at c;cases c;rw[d]at j;injection j with d1 _
 have:=by simpa using congrArg Array.toList d1
 subst this;exact r.inj m
end
abbrev Cx.wish(X:Cx)(E:VP):Cx:={X with xe:=E}
abbrev Cx.nox(X:Cx):Cx:=X.wish λ_ _=>False
def Cx.Ok.wish{X:Cx}(ok:X.Ok)(E):(X.wish E).Ok:=
 ⟨ok.mod,ok.kind,ok.glob,ok.blt,ok.above,ok.inj,ok.has,ok.cab,ok.hd,ok.frames,ok.stk,ok.exf,ok.bs,ok.bsz,ok.noex,ok.exfs,ok.funs,ok.frf⟩
def Cx.Ok.unwish{X:Cx}(ok:(X.wish E).Ok):X.Ok:=
 ⟨ok.mod,ok.kind,ok.glob,ok.blt,ok.above,ok.inj,ok.has,ok.cab,ok.hd,ok.frames,ok.stk,ok.exf,ok.bs,ok.bsz,ok.noex,ok.exfs,ok.funs,ok.frf⟩
section
variable{pins:L0}{σ:St}{H:Hp}{s:ř}
def Inv.wish(I:↑1)(E):Inv (X.wish E) pins σ H s:=⟨I.ok.wish E,I.os,I.bare,I.base,I.loc,I.cell,I.free,I.freeC,I.pin,I.hok,I.len⟩
def Inv.unwish(I:Inv (X.wish E) pins σ H s):Inv X pins σ H s:=⟨I.ok.unwish,I.os,I.bare,I.base,I.loc,I.cell,I.free,I.freeC,I.pin,I.hok,I.len⟩
def SP.unwish(h:SP (X.wish E) pins D f s'):SP X pins D f s':=by
 cases f with
 |next=>obtain⟨a,H',I,q⟩:=h;exact Zy a H' I.unwish q
 |brk=>obtain⟨a,H',I,q⟩:=h;exact Zy a H' I.unwish q
 |cont=>refine h.d λa H' I q=>?_;exact Zy a H' I.unwish q
 |ret u=>refine h.i λv a H' b=>b.f λI r q=>?_;exact Zv v a H' ⟨I.unwish,r,q⟩
def PSs.nox{st:List Stmt}(h:PSs X.nox st t):PSs X st t:=λpins s σ H D I hw=>
 ċ (h pins s σ H D (I.wish _) hw) (λ_ _ q=>q.unwish) λ_ _ z=>False.elim z
end
section
variable{st:Stmt}{rest:List Stmt}
def Z4:TS:=λD σ H=>D.nx σ H
def tSeq(t u:TS):TS:=λD σ H=>t {D with nx:=u D} σ H
def ZZ(a:PS X st t):PSs X [st] t:=by
 (intro pins s σ H D I h);refine wpAny_execs_cons (xV (a pins s σ H D I h) λf b q=>?_)
 cases f with
 |next=>exact Ő q
 |ret v=>exact q
 |brk=>exact q
 |cont=>exact q
def Inv.quiet(I:↑1):interactive X.env=false:=by simp[interactive,I.ok.kind]
def Z5(b:TE):TS:=λD σ H=>b σ H λ_ a=>D.nx σ a
def tRet(a:TE):TS:=λD σ H=>a σ H D.rt
def tIfS(c:TT)(t u:TS):TS:=λD σ H=>c σ H λb a=>if b=true then t D σ a else u D σ a
noncomputable def Z6(q:PT X c tc)(o:PSs X a t)(v:PSs X b u):PS X (.If c a b pos) (tIfS tc t u):=by
 (intro pins s σ H D I h);refine wpAny_If (xV (q pins s σ H _ I h) λd j ⟨k,I1,m⟩=>?_)
 cases d with
 |true=>exact o pins j σ k D I1 m
 |false=>exact v pins j σ k D I1 m
def Zd:TS:=λ_ _ _=>False
def Ir:PS X st Zd:=λ_ _ _ _ _ _ h=>h.elim
end
abbrev TG:=V->St->Hp->(St->Hp->Prop)->Prop
abbrev Ze:=List V->St->Hp->(St->Hp->Prop)->Prop
def PG(X:Cx)(a:Expr)(t:TG):Prop:=
 ∀(pins:L0)(s:ř)(σ:St)(H:Hp)(v:V)(u:Ś)(Q:St->Hp->Prop),Inv X pins σ H s->RelV v u->t v σ H Q->
  wpAny ↑5 X.A (assign a X.env u) (λ_ c=> ∃b H',Inv X pins b H' c/\Q b H') X.xe s
def X9(X:Cx)(ts:N0)(t:Ze):Prop:=
 ∀(pins:L0)(s:ř)(σ:St)(H:Hp)(vs:List V)(b:A0)(Q:St->Hp->Prop),Inv X pins σ H s->Vals vs b->t vs σ H Q->
  wpAny ↑5 X.A (assignInOrder ((assignEach ts X.env).map (·.2)) b) (λ_ c=> ∃a H',Inv X pins a H' c/\Q a H') X.xe s
abbrev TSet:=V->V->V->Hp->(Hp->Prop)->Prop
def Zf(X:Cx)(t:TSet):Prop:=
 ∀(pins:L0)(s:ř)(σ:St)(H:Hp)(o i v:V)(b a u:Ś)(Q:Hp->Prop),Inv X pins σ H s->RelV o b->RelV i a->RelV v u->t o i v H Q->
  wpAny ↑5 X.A (setItem b a u) (λ_ c=> ∃H',Inv X pins σ H' c/\Q H') X.xe s
section
variable{pos:Pos}
def Iu(i:Nat):TG:=λv σ H Q=>Q (σ.set i (some v)) H
def Aa(a:X.N.Nodup)(hi:X.N[i]? =some x)(j:Loc (X.env.scope) x)(b:Q2 X x:=by first |exact .inl rfl|exact .inr rfl|assumption):PG X (.Name x pos) (Iu i):=by intro pins s σ H v u Q I r h;exact wpAny_assign_Name (IR I a hi j r (λk c=>(Zy _ H c h)) b)
def gNil:Ze:=λa σ H Q=>a=[]/\Q σ H
def Z7(t:TG)(u:Ze):Ze:=λb σ H Q=> ∃v r,b=v::r/\t v σ H λa H'=>u r a H' Q
def Ab:X9 X [] gNil:=by intro pins s σ H a b Q I r h;obtain⟨e,h⟩:=h;subst e;exact assignInOrder_nil (Zy (σ) H I h)
def TD(m:PG X e t)(k:X9 X es u)
  (hs:(assignEach (e::es) X.env).map (·.2)=assign e X.env::(assignEach es X.env).map (·.2):=by rfl):X9 X (e::es) (Z7 t u):=by
 intro pins s σ H q y Q I r h;obtain⟨v,w,c,h⟩:=h;subst c
 cases r with
 |cons r rr=>
  rw[hs];refine assignInOrder_cons (xV (m pins s σ H _ _ _ I r h) λ_ j ⟨a,b,I1,o⟩=>?_);exact k pins j a b _ _ Q I1 rr o
def gTup(K:O0)(n:Nat)(t:Ze):TG:=λv σ H Q=> ∃a xs,v=.ref a/\SqT K H a xs/\↑12=n/\t xs σ H Q
def Iv{k:Nat}(j:X.calm=true)(h:X9 X es t)
  (hn:(assignEach es X.env).length=n:=by rfl) (hst:(assignEach es X.env).findIdx? (·.1)=none:=by rfl):PG X (.Tuple es k pos) (gTup X.K n t):=by
 intro pins s σ H v u Q I r hw;obtain⟨a,xs,y,m,A,hw⟩:=hw;subst y;subst r;refine(I.tuple m).c λB c q C=>?_;refine assign_Tuple_tuple (I.ok.hd j) q (by simp[hn, <-A,c.length]) hst λh' w=>?_;exact h pins _ σ H xs _ Q (I.kept λb o e=>w b o (ä (â e)) e) (by simpa using c) hw
def gSub(k b:TE)(t:TSet):TG:=λv σ H Q=>k σ H λo c=>b σ c λi j=>t o i v j λa=>Q σ a
def Iw(B:PE X o to)(hi:PE X i ti)(hs:Zf X t)
  (ha: ∀v,assign (.Subscript o i pos) X.env v=(do
   let j <-holding [v] (eval o X.env);let k <-holding [v,j] (eval i X.env)
   standAt pos
   holding [v,j,k] (setItem j k v)
   release [v,j,k] []):=by intro _;rfl):PG X (.Subscript o i pos) (gSub to ti t):=by
 intro pins s σ H v u Q I r h;refine wB (û (xV (B pins s σ H _ I h) λj D ⟨x,m,I1,a,G⟩=>?_));refine wB (û (xV (hi pins D σ m _ I1 G) λk c ⟨y,F,E,w,A⟩=>?_));refine wB (wpAny_standAt (wB (û (xV (hs pins c σ F x y v j k u _ E a w r A) λ_ J ⟨b,C,q⟩=>?_))));exact wpAny_release (Zy (σ) b C q)
def Zg(b:TE)(g:TG):TS:=λD σ H=>b σ H λx a=>g x σ a D.nx
def Zh(j:PE X e te)(c:PG X tg g)(hs:swapsWithSole [tg] e pos.line X.env=pure false:=by rfl)(hw:swappedStores [tg] e X.env=pure none:=by rfl)
  (h1:(assignEach [tg] X.env).map (·.2)=[assign tg X.env]:=by rfl):PS X (.Assign [tg] e pos) (Zg te g):=by
 (intro pins s σ H D I h);refine wpAny_Assign_stores (xV (j pins s σ H _ I h) λv b ⟨x,a,I1,m,k⟩=>?_) hs hw;rw[h1];exact xV (c pins b σ a x v _ I1 m k) λ_ o q=>q
def Zi(a:X.N.Nodup)(hi:X.N[i]? =some x)(j:Loc (X.env.scope) x)(m:PE X e te)(hs:swapsWith e (some (.Name x pos')) pos.line X.env=pure false:=by rfl)(b:Q2 X x:=by first |exact .inl rfl|exact .inr rfl|assumption):
  PS X (.Assign [.Name x pos'] e pos) (Zg te (Iu i)):=by
 (intro pins s σ H D I h);refine wpAny_Assign_Name (xV (m pins s σ H _ I h) λv w ⟨y,c,I1,q,o⟩=>?_) hs;exact IR I1 a hi j q (λu k=>(Zy _ c k o)) b
end
section
def Zj(c:TT)(o:TS):TS:=λD σ H=> ∃W:Nat->St->Hp->Prop,(∃m,W m σ H)/\ ∀m σ H,W m σ H->
 c σ H λb k=>if b=true then∃N:St->Hp->Prop,(∀a H',N a H'-> ∃j,j<m/\W j a H')/\o {D with nx:=N,ct:=N,bk:=D.nx} σ k else D.nx σ k
def Iy(K:PassesOwn ↑5 X.A X.env X.xe)(Q:PT X c tc)(Y:PSs X body tb):PS X (.While c body [] pos) (Zj tc tb):=by
 (intro pins s σ H D I h);refine h.a λW V o=>?_;obtain ⟨P,Z⟩:=V;refine wpAny_While (codeAny_whileLoop (λn T=> ∃k H',Inv X pins k H' T/\W n k H') ?_ P (Zy (σ) H I Z));rintro n S ⟨j,M,I1,U⟩;refine Ĺ K (xV (Q pins S j M _ I1 (o n j M U)) λb O ⟨L,J,u⟩=>?_)
 cases b with
 |true=>
  refine u.a λN G u=>?_;refine Ĺ K (xV (Y pins O j L _ J u) λf s3 q=>?_)
  cases f with
  |next=>
   obtain⟨a,m,E,B⟩:=q;obtain⟨y,C,F⟩:=G a m B;exact⟨y,C,a,m,E,F⟩
  |cont=>
   obtain⟨a,m,E,B⟩:=q;obtain⟨y,C,F⟩:=G a m B;exact⟨y,C,a,m,E,F⟩
  |brk=>exact q
  |ret v=>exact q
 |false=>
  exact Ő (Zy j L J u)
end
structure It where
 go:Nat->Hp->Prop
 yld:Nat->Hp->V->Hp->Prop
 stop:Nat->Hp->Prop
def CS(X:Cx)(pins:L0)(H:Hp)(b:Addr):Prop:=
 H b=none/\b≠X.env.locals/\b∉X.fs/\(b∈X.ex\/X.s₀.heap.objs.size<=b)/\(∀x c,X.env.cells.lookup x=some c->c≠b)/\ ∀p∈X.pn++pins,p.1≠b
def Inv.fpOk{b:Addr}(I:↑1)(a:↑0<=b)(j:H' b=none):CS X pins H' b:=by
 refine⟨j,Ĕ (ê I.lt a),I.nofs a,.inr (ì I.sz a),λx c e z=>?_,λp k z=>?_⟩
 .obtain⟨v,q⟩:=I.cell x c e;exact absurd (ê q.lt (by rw[z];exact a)) (ĝ _)
 .exact absurd (ê (â (I.pin p k).1) (by rw[z];exact a)) (ĝ _)
abbrev Zk(X:Cx):Prop:=X.calm=true
structure TurnC(C:Cx->Prop)(P:ś)(w:World)(K:O0)(tg:Expr)(J:It)(fp:B9)(it:Addr)(tn:Nat->Heap->Prop):Prop where
 mem:it∈fp
 obj: ∀i h,tn i h-> ∀b∈fp, ∃o,h.get? b=some o/\ ∀v,o.data≠.cell v
 keep: ∀i h h',tn i h->(∀b∈fp, ∀o,h.get? b=some o->h'.get? b=some o)->tn i h'
 item: ∀(X:Cx),X.prog=P->X.w=w->X.K=K->C X-> ∀(i:Nat)(pins:L0)(s:ř)(σ:St)(H:Hp)(E:VP),Inv X pins σ H s->(∀b∈fp,CS X pins H b)->tn i s.heap->J.go i H->
  wpAny (model P w) X.A (pyNext (.ref it)) (λr s1=> ∃u,r=some u/\
   wpAny (model P w) X.A (letOwnedTupleGo tg (.ref it) u) (λ_ s2=> ∃x H',Inv X pins σ H' s2/\RelV x u/\J.yld i H x H'/\tn (i+1) s2.heap/\ ∀b∈fp,H' b=none) E s1) E s
 done: ∀(X:Cx),X.prog=P->X.w=w->X.K=K->C X-> ∀(i:Nat)(pins:L0)(s:ř)(σ:St)(H:Hp)(E:VP),Inv X pins σ H s->(∀b∈fp,CS X pins H b)->tn i s.heap->J.stop i H->
  wpAny (model P w) X.A (pyNext (.ref it)) (λr s1=>r=none/\Inv X pins σ H s1) E s
 self: ∀(A:Around)(i:Nat)(s:ř)(Q:VP)(E:VP),tn i s.heap->Q (.ref it) s->wpAny (model P w) A (pyIter (.ref it)) Q E s
abbrev Turn:=TurnC Zk
abbrev TI:=St->Hp->(It->Hp->Prop)->Prop
def Z8(C:Cx->Prop)(X:Cx)(pins:L0)(σ:St)(tg:Expr)(R:It->Hp->Prop)(a:Ś)(j:ř):Prop:=
 ∃(k:Addr)(fp:B9)(c:Nat->Heap->Prop)(J:It)(H':Hp),a=.ref k/\Inv X pins σ H' j/\TurnC C X.prog X.w X.K tg J fp k c/\c 0 j.heap/\(∀b∈fp,CS X pins H' b)/\R J H'
abbrev PIE:=Z8 Zk
def Z9(C:Cx->Prop)(X:Cx)(tg iter:Expr)(b:TI):Prop:=
 ∀(pins:L0)(s:ř)(σ:St)(H:Hp)(R:It->Hp->Prop),Inv X pins σ H s->b σ H R->
  wpAny ↑5 X.A (eval iter X.env) (λv a=>wpAny ↑5 X.A (pyIter v) (Z8 C X pins σ tg R) X.xe a) X.xe s
abbrev PI:=Z9 Zk
def Ac(a:s.heap.get? it=some o)(b:o.cls=.type n)(c:o.data=.fields vs)
  (hn:["enumerate","zip","dict_itemiterator","dict_reverseitemiterator","odict_iterator","itertools.zip_longest","itertools.pairwise"].contains n=false) (hQ:Q () s):wpAny M A (letOwnedTupleGo tg (.ref it) u) Q E s:=by
 cases tg<;>first
  |exact wP hQ
  |(cases u<;>first
    |exact wP hQ
    |(refine wB (wpAny_load a ?_)
      rw[b,c];show wpAny M A (if _=true then _ else _) Q E s;rw[iN0 (by intro h;rw[hn]at h;cases h)];exact wP hQ))
noncomputable def Itl(K:O0)(a:Addr):It:=
 ⟨λi H=> ∃xs x,SqL K H a xs/\xs[i]? =some x,λi H x H'=>H'=H/\ ∀xs,SqL K H a xs->xs[i]? =some x,λi H=> ∃xs,SqL K H a xs/\↑12<=i⟩
noncomputable def Itt(K:O0)(a:Addr):It:=
 ⟨λi H=> ∃xs x,SqT K H a xs/\xs[i]? =some x,λi H x H'=>H'=H/\ ∀xs,SqT K H a xs->xs[i]? =some x,λi H=> ∃xs,SqT K H a xs/\↑12<=i⟩
noncomputable def zCZ(lo:Int)(n:Nat):It:=⟨λi _=>i<n,λi H x H'=>H'=H/\x=.int (lo+i),λi _=>n<=i⟩
theorem Dy{K:O0}(a it):Turn P w K tg (Itl K a) [it] it (λi h=>h.IsListIter it a i) where
 mem:=by simp
 obj:=λi h st b hb=>by
  have e:=by simpa using hb
  subst e;refine st.c λo e c d=>?_;exact Z0 o e (λv z=>by rw[d]at z;cases z)
 keep:=λi h h' st k=>st.at λo e=>k it (by simp) o e
 item:=by intro X hP hw hK hc i pins s σ H E I hf st hg;subst hP hw hK;refine hg.d λxs x hq hx=>?_;refine(I.list hq).c λits rv p hz=>?_;refine(rv.get hx).a λu hu ru=>?_;refine(hf it (by simp)).g λf0 f1 f2 f3 f4 f5=>?_;refine wpAny_pyNext_list_item st p.isList (by simpa using hu) λh' st' sb=>?_;refine(id st').c λo e c d=>?_;exact Z0 u rfl (Ac e c d ↑4 (YZ x H (I.turned (λb o hb e=>(sb.2 b hb).trans e) f0 f1 f3 f4 f5) ru ⟨rfl,λys hy=>by rw[I.list_inj hy hq];exact hx⟩ st' (λb hb=>(hf b hb).1)))
 done:=by intro X hP hw hK hc i pins s σ H E I hf st hg;subst hP hw hK;refine hg.a λxs hq hx=>?_;refine(I.list hq).c λits rv p hz=>?_;refine(hf it (by simp)).g λf0 f1 f2 f3 f4 f5=>?_;have hl:=rv.length;exact wpAny_pyNext_list_end (I.ok.hd hc) st p.isList (by simp;lia) λh' eb=>⟨rfl,I.turned (λb o hb e=>eb b o hb e) f0 f1 f3 f4 f5⟩
 self:=λ_ _ _ _ _ st h=>wpAny_pyIter_listiter st h
theorem WP{K:O0}(a it):Turn P w K tg (Itt K a) [it] it (λi h=>h.IsTupleIter it a i) where
 mem:=by simp
 obj:=λi h st b hb=>by
  have e:=by simpa using hb
  subst e;refine st.c λo e c d=>?_;exact Z0 o e (λv z=>by rw[d]at z;cases z)
 keep:=λi h h' st k=>st.at λo e=>k it (by simp) o e
 item:=by intro X hP hw hK hc i pins s σ H E I hf st hg;subst hP hw hK;refine hg.d λxs x hq hx=>?_;refine(I.tuple hq).c λits rv p hz=>?_;refine(rv.get hx).a λu hu ru=>?_;refine(hf it (by simp)).g λf0 f1 f2 f3 f4 f5=>?_;refine wpAny_pyNext_tuple_item st p (by simpa using hu) λh' st' sb=>?_;refine(id st').c λo e c d=>?_;exact Z0 u rfl (Ac e c d ↑4 (YZ x H (I.turned (λb o hb e=>(sb.2 b hb).trans e) f0 f1 f3 f4 f5) ru ⟨rfl,λys hy=>by rw[I.tuple_inj hy hq];exact hx⟩ st' (λb hb=>(hf b hb).1)))
 done:=by intro X hP hw hK hc i pins s σ H E I hf st hg;subst hP hw hK;refine hg.a λxs hq hx=>?_;refine(I.tuple hq).c λits rv p hz=>?_;refine(hf it (by simp)).g λf0 f1 f2 f3 f4 f5=>?_;have hl:=rv.length;exact wpAny_pyNext_tuple_end (I.ok.hd hc) st p (by simp;lia) λh' eb=>⟨rfl,I.turned (λb o hb e=>eb b o hb e) f0 f1 f3 f4 f5⟩
 self:=λ_ _ _ _ _ st h=>wpAny_pyIter_tupleiter st h
theorem WQ{K:O0}(it)(lo)(n):Turn P w K tg (zCZ lo n) [it] it (λi h=>IsRangeIter h it (lo+ i  * 1) ( n  -  i ) 1) where
 mem:=by simp
 obj:=λi h st b hb=>by
  have e:=by simpa using hb
  subst e;exact Z0 _ st (λv z=>by cases z)
 keep:=λi h h' st k=>k it (by simp) _ st
 item:=by intro X hP hw hK hc i pins s σ H E I hf st hg;subst hP hw hK;refine(hf it (by simp)).g λf0 f1 f2 f3 f4 f5=>?_;refine(Walks.range (prog:=X.prog) (w:=X.w) (I.ok.hd hc) it lo 1 n).item i s _ _ hg st λv h' tk hv st' kk=>?_;obtain⟨t,rfl⟩:=hv;refine Z0 _ rfl (Ac st' rfl rfl ↑4 (YZ (.int _) H (I.turned (λb o hb e=>kk b o (by simpa using hb) e) f0 f1 f3 f4 f5) ⟨t,?_⟩ ⟨rfl,rfl⟩ st' (λb hb=>(hf b hb).1)));rw[Int.mul_one]
 done:=by intro X hP hw hK hc i pins s σ H E I hf st hg;refine(hf it (by simp)).g λf0 f1 f2 f3 f4 f5=>?_;exact wpAny_pyNext_range_end (I.ok.hd hc) st (by have:n<=i:=hg;lia) λh' eb=>⟨rfl,I.turned (λb o hb e=>eb b o hb e) f0 f1 f3 f4 f5⟩
 self:=λ_ _ _ _ _ st h=>wpAny_pyIter_rangeiter st h
section
def zAA(K:O0)(c:TE):TI:=λσ H R=>c σ H λx b=> ∃a,x=.ref a/\(∃xs,SqL K b a xs)/\R (Itl K a) b
def iTup(K:O0)(c:TE):TI:=λσ H R=>c σ H λx b=> ∃a,x=.ref a/\(∃xs,SqT K b a xs)/\R (Itt K a) b
def Px(m:PE X l tl):PI X tg l (zAA X.K tl):=by
 intro pins s σ H R I h;refine xV (m pins s σ H _ I h) λv C ⟨x,j,I1,c,y⟩=>?_;refine y.c λa e D q=>?_;obtain ⟨xs,k⟩:=D;subst e;subst c;refine(I1.list k).c λu A p B=>?_;refine Ŀ p.isList ?_;refine Zp _ _ _ _ j ⟨rfl,I1.kept λb o e=>hP0 _ e,Dy a _,(ZB _ (ã _ rfl) rfl rfl),(λb w=>?_),q⟩;have e:=by simpa using w
 subst e;exact I1.fpOk (à _) (I1.hok.fresh (à _))
def Zl(m:PE X l tl):PI X tg l (iTup X.K tl):=by
 intro pins s σ H R I h;refine xV (m pins s σ H _ I h) λv C ⟨x,j,I1,c,y⟩=>?_;refine y.c λa e D q=>?_;obtain ⟨xs,k⟩:=D;subst e;subst c;refine(I1.tuple k).c λu A p B=>?_;refine wpAny_pyIter_tuple p ?_;refine Zp _ _ _ _ j ⟨rfl,I1.kept λb o e=>hP0 _ e,WP a _,(ZB _ (ã _ rfl) rfl rfl),(λb w=>?_),q⟩;have e:=by simpa using w
 subst e;exact I1.fpOk (à _) (I1.hok.fresh (à _))
theorem Iz{lo:Int}(I:↑1)(m: -(2 ^ 62)<=lo)(a:lo<2 ^ 62)(k: -(2 ^ 62)<=hi)(c:hi<2 ^ 62)
  (q:R (zCZ lo (hi - lo).toNat) H):wpAny ↑5 X.A (pyIter (.ref ↑0)) (PIE X pins σ tg R) E {s with heap:=s.heap.push {cls:=.type "range",data:=.fields #[.int lo t,.int hi u,.int 1 v]},toks:=tk}:=by
 refine wpAny_pyIter_range (IsRange.new ..) (small_one m a k c) ?_;have I1:Inv X pins σ H {s with heap:=s.heap.push {cls:=.type "range",data:=.fields #[.int lo t,.int hi u,.int 1 v]},toks:=tk}:=I.kept λb o e=>hP0 _ e
 refine Zp _ _ _ _ H ⟨rfl,I1.kept λb o e=>hP0 _ e,WQ _ lo (hi - lo).toNat,?_,(λb y=>?_),q⟩
 .have B:lo+((0:Nat):Int) * 1=lo:=by simp
  have j:(((hi - lo).toNat:Nat):Int) - ((0:Nat):Int)=Builtin.Range.rangeSize lo hi 1:=by rw[rangeSize_one];split<;>lia
  show IsRangeIter _ _ _ _ 1;rw[B,j];exact ã _ rfl
 .have e:b=(s.heap.push {cls:=.type "range",data:=.fields #[.int lo t,.int hi u,.int 1 v]}).objs.size:=by simpa using y
  subst e;exact I1.fpOk (à _) (I1.hok.fresh (à _))
def zAB(a:TA):TI:=λσ H R=>a σ H λb c=> ∃j:Int,b=[.int j]/\ -(2 ^ 62)<=j/\j<2 ^ 62/\R (zCZ 0 j.toNat) c
theorem Dz(o:Gl X "range")(k:X.mg "range"=none)(u:PA X [a] ta)(hs:starEach [a] X.env=[((false,eval a X.env))]:=by rfl):PI X tg (.Call (.Name "range" p) [a] [] pos) (zAB ta):=by
 intro pins s σ H R I h;refine Call_ (ER I o k boot_range (ķ (xV (u pos pins s σ H _ I h) λy A ⟨v,w,I1,c,b⟩=>?_) hs rfl));obtain⟨j,e,b,m,q⟩:=b;subst e
 cases c with
 |cons r rr=>
  cases rr;obtain⟨t,rfl⟩:=r;exact call_range_1 (Iz I1 #[0] #[0] b m (by simpa using q))
def tFor(q:TI)(g:TG)(j:TS):TS:=λD σ H=>q σ H λJ k=> ∃W:Nat->Nat->St->Hp->Prop,(∃m,W 0 m σ k)/\ ∀i m σ H,W i m σ H->
 (J.stop i H/\D.nx σ H)\/(J.go i H/\ ∃N:St->Hp->Prop,(∀a H',N a H'-> ∃c,c<m/\W (i+1) c a H')/\ ∀x H',J.yld i H x H'->g x σ H' λb o=>j {D with nx:=N,ct:=N,bk:=D.nx} b o)
noncomputable def IS(fp:B9)(h:Heap):List (Addr×Obj):=fp.filterMap λb=>(h.get? b).map λo=>(b,o)
def BN(a:b∈fp)(e:h.get? b=some o):(b,o)∈IS fp h:=mem_filterMap.mpr ⟨b,a,by rw[e];rfl⟩
def Ea(c:p∈IS fp h):p.1∈fp/\h.get? p.1=some p.2:=by
 refine(mem_filterMap.mp c).a λb a e=>?_
 cases q:h.get? b with
 |none=>rw[q]at e;cases e
 |some o=>
  rw[q]at e;have j:_=p:=å e;subst j;exact⟨a,q⟩
def Inv.pinned(I:↑1)(j: ∀b∈fp,CS X pins H b)(q: ∀b∈fp, ∃o,s.heap.get? b=some o/\ ∀v,o.data≠.cell v):Inv X (pins++IS fp s.heap) σ H s:=
 I.pins_of λp m=>(ç.mp m).elim (λz=>I.pin p (þ _ z)) λz=>by obtain⟨a,e⟩:=Ea z;refine(j p.1 a).e λf0 k u _=>?_;refine(q p.1 a).a λo c d=>?_;rw[e]at c;cases c;exact⟨e,f0,k,u,d⟩
def Inv.unpinned(I:Inv X (pins++pl) σ H s):Inv X pins σ H s:=I.pins_of λp a=>I.pin p (þ _ (Ġ _ a))
def Zm(K:PassesOwn ↑5 X.A X.env X.xe)(Z:X.calm=true)(hi:PI X tg iter wi)(hg:PG X tg g)(j:PSs X body tb)
  (hs: ∀x,foldedSetIterable iter X.env x=pure x:=by intro _;rfl):PS X (.For tg iter body [] pos) (tFor wi g tb):=by
 (intro pins s σ H D I h);refine wpAny_For (xV (hi pins s σ H _ I h) λv s1 h1=>xV h1 λaa s2 h2=>?_) hs;obtain⟨it,fp,tn,J,H2,e,I2,T,Y,f2,W,⟨m0,w0⟩,M⟩:=h2;subst e;have k: ∀{H':Hp},(∀b∈fp,H' b=none)-> ∀b∈fp,CS X pins H' b:=λhn b j=>⟨hn b j,(f2 b j).2⟩
 refine codeAny_forLoop_any (λn s'=> ∃i q H',Inv X pins q H' s'/\tn i s'.heap/\(∀b∈fp,H' b=none)/\W i n q H') ?_ m0 (Zq 0 (σ) H2 I2 Y (λb j=>(f2 b j).1) w0);rintro n s3 ⟨i,c,O,I3,F,L,w3⟩;rcases M i n c O w3 with⟨stop,qn⟩|⟨go,N,hN,step⟩
 .refine Ĺ K (xV (T.done X rfl rfl rfl Z i pins s3 c O X.xe I3 (k L) F stop) λr s4 ⟨P,I4⟩=>?_);subst P;exact Ő (Zy c O I4 qn)
 .refine Ĺ K (xV (T.item X rfl rfl rfl Z i pins s3 c O X.xe I3 (k L) F go) λr s4 ⟨u,P,h4⟩=>?_);subst P;refine Ĺ K (xV h4 λ_ s5 ⟨x,H5,I5,r5,y5,E,S⟩=>?_);refine Ĺ K (xV (hg _ s5 c H5 x u _ (I5.pinned (k S) (T.obj _ _ E)) r5 (step x H5 y5)) λ_ s6 ⟨Q,H6,I6,q6⟩=>?_);refine Ĺ K (xV (j _ s6 Q H6 _ I6 q6) λf U C=>?_);have B: ∀{a:St}{H7:Hp},Inv X _ a H7 U->N a H7-> ∃m,m<n/\ ∃i q H',Inv X pins q H' U/\tn i U.heap/\(∀b∈fp,H' b=none)/\W i m q H':=λ{a H7} y G=>by refine(hN a H7 G).a λm' hm w7=>?_;refine⟨m',hm,_,a,H7,y.unpinned,T.keep _ _ _ E λb j o e=>(y.pin _ (þ _ (þ _ (BN j e)))).1,λb j=>?_,w7⟩;refine(T.obj _ _ E b j).a λo e d=>?_;exact(y.pin _ (þ _ (þ _ (BN j e)))).2.1
  cases f with
  |next=>refine C.d λa H7 y G=>?_;exact B y G
  |cont=>refine C.d λa H7 y G=>?_;exact B y G
  |brk=>refine C.d λa H7 y C=>?_;exact Zy a H7 y.unpinned C
  |ret v=>refine C.i λx7 a H7 V=>V.f λy r7 C=>?_;exact Zv x7 a H7 ⟨y.unpinned,r7,C⟩
end
abbrev R2:=V->V->Hp->VK->Prop
def OpR(X:Cx)(f:Ś->Ś->Sem Ś)(r:R2):Prop:=
 ∀(pins:L0)(s:ř)(σ:St)(H:Hp)(x y:V)(v u:Ś)(Q:VK),Inv X pins σ H s->RelV x v->RelV y u->r x y H Q->
  wpAny ↑5 X.A (f v u) (EP X pins σ Q) X.xe s
def UnR(X:Cx)(f:Ś->Sem Ś)(r:V->Hp->VK->Prop):Prop:=
 ∀(pins:L0)(s:ř)(σ:St)(H:Hp)(x:V)(v:Ś)(Q:VK),Inv X pins σ H s->RelV x v->r x H Q->
  wpAny ↑5 X.A (f v) (EP X pins σ Q) X.xe s
def CallR(X:Cx)(f:Ś)(r:List V->Hp->VK->Prop):Prop:=
 ∀(pins:L0)(s:ř)(σ:St)(H:Hp)(xs:List V)(a:A0)(Q:VK),Inv X pins σ H s->Vals xs a->r xs H Q->
  wpAny ↑5 X.A (call f a) (EP X pins σ Q) X.xe s
def TruR(X:Cx)(r:V->Hp->(Bool->Hp->Prop)->Prop):Prop:=
 ∀(pins:L0)(s:ř)(σ:St)(H:Hp)(x:V)(v:Ś)(Q:Bool->Hp->Prop),Inv X pins σ H s->RelV x v->r x H Q->
  wpAny ↑5 X.A (truthy v) (TP X pins σ Q) X.xe s
def zDA(r:R2)(j a:TE):TE:=λσ H Q=>j σ H λx b=>a σ b λy c=>r x y c Q
def tUn(r:V->Hp->VK->Prop)(a:TE):TE:=λσ H Q=>a σ H λx b=>r x b Q
def rI(C:Int->Int->Prop)(g:Int->Int->V):R2:=λx y H Q=> ∃i j,x=.int i/\y=.int j/\C i j/\Q (g i j) H
def Py(g:Int->Int->V):R2:=λx y H Q=> ∃i j,x=.int i/\y=.int j/\Q (g i j) H
def rU(g:Int->V):V->Hp->VK->Prop:=λx H Q=> ∃i,x=.int i/\Q (g i) H
section
def Zn(E:PE X a ta)(F:PE X b tb){R:V->V->Hp->Prop}(I:↑1)
  (h:ta σ H λx B=>tb σ B λy j=>R x y j)  {f:Ś->Ś->Sem Ś}
  (hf: ∀v u q x y j,Inv X pins σ j q->RelV x v->RelV y u->R x y j->wpAny ↑5 X.A (f v u) Q X.xe q):
  wpAny ↑5 X.A (eval a X.env) (λv m=>wpAny ↑5 X.A (eval b X.env) (λu k=>wpAny ↑5 X.A (f v u) Q X.xe k) X.xe m) X.xe s:=by
 refine xV (E pins s σ H _ I h) λv C ⟨x,B,I1,J,G⟩=>?_;refine xV (F pins C σ B _ I1 G) λu q ⟨y,j,D,c,o⟩=>?_;exact hf v u q x y j D J c o
def Xd(B:OpR X (binaryOp op) r)(o:PE X a ta)(A:PE X b tb):PE X (.BinOp a op b pos) (zDA r ta tb):=by rw[22];exact wpAny_BinOp (Zn o A I h λv u c x y w m k j q=>B pins c σ w x y v u Q m k j q)
def Xe(o:UnR X (unaryOp op) r)(k:PE X a ta):PE X (.UnaryOp op a pos) (tUn r ta):=by rw[22];exact UnaryOp_ (xV (k pins s σ H _ I h) λv c ⟨x,j,I1,b,m⟩=>o pins c σ j x v Q I1 b m)
def zAC{g:Int->Int->Int}
  (rule: ∀ i j  t u  s  Q  E ,C i j->Q (.int (g i j) s.toks) {s with toks:=s.toks+1}->wpAny ↑5 X.A (f (.int i t) (.int j u)) Q E s):
  OpR X f (rI C λi j=>.int (g i j)):=by
 intro pins s σ H x y v u Q I k c h;refine h.k λi j m o b q=>?_;subst m;subst o;obtain⟨t,rfl⟩:=k;obtain⟨a,rfl⟩:=c;exact rule i j t a s _ _ b (ZC (.int _) H (I.tok _) ⟨_,rfl⟩ q)
def zAD{g:Int->Int->Int}
  (rule: ∀ i j  t u  s  Q  E ,Q (.int (g i j) s.toks) {s with toks:=s.toks+1}->wpAny ↑5 X.A (f (.int i t) (.int j u)) Q E s):
  OpR X f (Py λi j=>.int (g i j)):=by
 intro pins s σ H x y v u Q I c b h;refine h.b λi j k m q=>?_;subst k;subst m;obtain⟨t,rfl⟩:=c;obtain⟨a,rfl⟩:=b;exact rule i j t a s _ _ (ZC (.int _) H (I.tok _) ⟨_,rfl⟩ q)
def zAE{g:Int->Int->Bool}
  (rule: ∀ i j  t u  s  Q  E ,Q (.bool (g i j)) s->wpAny ↑5 X.A (f (.int i t) (.int j u)) Q E s):
  OpR X f (Py λi j=>.bl (g i j)):=by
 intro pins s σ H x y v u Q I c b h;refine h.b λi j k m q=>?_;subst k;subst m;obtain⟨t,rfl⟩:=c;obtain⟨a,rfl⟩:=b;exact rule i j t a s _ _ (ZC (.bl _) H I rfl q)
def CMul(i j:Int):Prop:=(-(2 ^ 64)<i/\i<2 ^ 64)\/(-(2 ^ 64)<j/\j<2 ^ 64)
def CMul.ok(h:CMul i j):IntMulOk i j:=by
 rcases h with⟨h1,h2⟩|⟨h1,h2⟩
 .exact .of_left (intBits_le_64 h1 h2)
 .exact .of_right (intBits_le_64 h1 h2)
def WR(k):(0:Int)<=2 ^ k:=by rw[two_pow_cast];exact Int.natCast_nonneg _
def Zo:OpR X (binaryOp .Add) (Py λi j=>.int (i+j)):=zAD λ_ _ _ _ _ _ _ q=>add_int q
def unI{g:Int->Int}
  (rule: ∀ i  t  s  Q  E ,Q (.int (g i) s.toks) {s with toks:=s.toks+1}->wpAny ↑5 X.A (f (.int i t)) Q E s):
  UnR X f (rU λi=>.int (g i)):=by
 intro pins s σ H x v Q I a h;refine h.a λi b q=>?_;subst b;obtain⟨t,rfl⟩:=a;exact rule i t s _ _ (ZC (.int (g i)) H (I.tok _) ⟨_,rfl⟩ q)
def Ja:UnR X (unaryOp .USub) (rU λi=>.int (-i)):=unI λ_ _ _ _ _ q=>neg_int q
end
section
variable{b c:Expr}
def Jb(I:↑1)(q:Q (.bl k) H)(e:k=k'):EP X pins σ Q (.bool k') s:=by subst e;exact ZC (.bl k) H I rfl q
def zAF:OpR X (compareOp .LtE) (Py λi j=>.bl (decide (i<=j))):=zAE λ_ _ _ _ _ _ _ q=>le_int q
def Xf:OpR X (compareOp .Gt) (Py λi j=>.bl (decide (j<i))):=zAE λ_ _ _ _ _ _ _ q=>gt_int q
def Eb:OpR X (compareOp .In) (λx y H Q=> ∃i j,x=.str i/\y=.str j/\Q (.bl (!(Builtin.Str.occurrences j i 0 (j.length) 1).isEmpty)) H):=by intro pins s σ H x y v u Q I b a h;refine h.b λi j k m q=>?_;subst k;subst m;obtain⟨t,rfl⟩:=b;obtain⟨c,rfl⟩:=a;exact in_str (Jb I q rfl)
def OV:OpR X (compareOp .NotIn) (λx y H Q=> ∃i j,x=.str i/\y=.str j/\Q (.bl (!(!(Builtin.Str.occurrences j i 0 (j.length) 1).isEmpty))) H):=by intro pins s σ H x y v u Q I b a h;refine h.b λi j k m q=>?_;subst k;subst m;obtain⟨t,rfl⟩:=b;obtain⟨c,rfl⟩:=a;exact notIn_str (Jb I q rfl)
def OpR.or(h:OpR X f r)(h':OpR X f r'):OpR X f (λx y H Q=>r x y H Q\/r' x y H Q):=by
 intro pins s σ H x y v u Q I a b q;rcases q with q|q
 .exact h pins s σ H x y v u Q I a b q
 .exact h' pins s σ H x y v u Q I a b q
def Jc(b)(h:op≠.In:=by decide)(j:op≠.NotIn:=by decide):behindInMarks op b=false:=by
 have c:(op==CmpOp.In)=false:=by cases op<;>first |rfl|exact absurd rfl h
 have a:(op==CmpOp.NotIn)=false:=by cases op<;>first |rfl|exact absurd rfl j
 cases b<;>simp[behindInMarks,c,a]
def Xg(t:TE):TT:=λσ H Q=>t σ H λx H'=> ∃k,x=.bl k/\Q k H'
def Je(r u:R2)(s c o:TE):TE:=λσ H Q=>s σ H λx j=>c σ j λy m=>r x y m λz a=> ∃k,z=.bl k/\
 (if k=true then o σ a λb q=>u y b q Q else Q (.bl false) a)
def Jf(ho:OpR X (compareOp op) r)(j:OpR X (compareOp op') r')(Z:PE X a ta)(hb:PE X b tb)(P:PE X c tc)
  (hm:lastMarks [op,op'] [b,c]=false:=by with_unfolding_all rfl):PT X (.Compare a [op,op'] [b,c] pos) (Xg (Je r r' ta tb tc)):=by
 rw[22]
 refine isTrue_chain (xV (Z pins s σ H _ I h) λv Y ⟨x,L,I1,r1,J⟩=>test_link (xV (hb pins Y σ L _ I1 J) λu A ⟨y,F,C,m,T⟩=>
  xV (ho pins A σ F x y v u _ C r1 m T) λd U ⟨z,o,w,E,k,e,q⟩=>?_)) hm
 subst e;subst E;refine ĉ ?_
 cases k with
 |false=>
  refine q.a λk' e' q'=>?_;cases e';exact ite_ff (Z0 o w q')
 |true=>
  refine ite_tt (test_last (xV (P pins U σ o _ w q) λW B ⟨S,N,G,O,q4⟩=>xV (j pins B σ N y S u W _ G m O q4) λd' s5 ⟨z2,H5,I5,D,k2,K,M⟩=>?_));subst K;subst D;exact ĉ (Z0 H5 I5 M)
def Zs(K:O0)(x:V)(H:Hp)(k:Bool):Prop:=
 match x with
 |.non=>k=false
 |.bl b=>k=b
 |.int i=>k=(i !=0)
 |.str y=>y.length<=sizeLine/\k=((y.length:Int) !=0)
 |.byt y=>y.size<=sizeLine/\k=((y.size:Int) !=0)
 |.ref p=>(∃xs,SqL K H p xs/\k= !xs.isEmpty)\/(∃xs,SqT K H p xs/\k= !xs.isEmpty)\/ ∃a,H p=some (.dK a)/\k= !a.isEmpty
 |_=>False
def IT(r:Vals xs its):(!its.toArray.isEmpty)= !xs.isEmpty:=by cases r<;>simp
def ES: sizeLine <2 ^ 63:=by rw[ý];decide
theorem Zt:TruR X (λx H Q=> ∃k,Zs X.K x H k/\Q k H):=by
 intro pins s σ H x v Q I j h;obtain⟨k,e,q⟩:=h;have hs:=ý
 cases x with
 |non=>
  subst j;have a:=e;subst a;exact truthy_none ⟨H,I,q⟩
 |bl b=>
  subst j;have a:=e;subst a;exact ĉ ⟨H,I,q⟩
 |int i=>
  obtain⟨t,rfl⟩:=j;have a:=e;subst a;exact PySem.P.truthy_int ⟨H,I,q⟩
 |str y=>
  obtain⟨t,rfl⟩:=j;obtain⟨C,a⟩:y.length<=sizeLine/\k=_:=e;subst a;exact PySem.P.truthy_str #[0] ⟨H,I.tok _,q⟩
 |byt y=>
  obtain⟨t,rfl⟩:=j;obtain⟨C,a⟩:y.size<=sizeLine/\k=_:=e;subst a;exact PySem.W.truthy_bytes #[0] ⟨H,I.tok _,q⟩
 |ref p=>
  subst j;have a:=e;rcases a with⟨xs,hx,a⟩|⟨xs,hx,a⟩|⟨kvs,hx,a⟩
  .subst a;obtain⟨w,r,u,A⟩:=I.list hx;have c:=r.length;exact wpAny_truthy_list u.isList (by simp only[sA];lia) (Z0 H (I.tok _) (by rw[IT r];exact q))
  .subst a;obtain⟨w,r,u,A⟩:=I.tuple hx;have c:=r.length;exact truthy_tuple u (by simp only[sA];lia) (Z0 H (I.tok _) (by rw[IT r];exact q))
  .subst a;obtain⟨A,B,o,r,m⟩:kvs.length<=sizeLine/\_=false/\ ∃o,KV kvs o/\s.heap.DictOf _ p o:=I.hok p _ hx;have c:=Paired.length r;exact wpAny_truthy_dict B m #[0] (Z0 H (I.tok _) (by rw[(show (!o.isEmpty)= !kvs.isEmpty by cases r<;>rfl)];exact q))
 |_=>exact e.elim
def WT:OpR X (binaryOp .Add) (λx y H Q=> ∃i j,x=.str i/\y=.str j/\i.length+(j.length)<=sizeLine/\Q (.str (i++j)) H):=by intro pins s σ H x y v u Q I c b h;refine h.k λi j m o k q=>?_;subst m;subst o;obtain⟨t,rfl⟩:=c;obtain⟨a,rfl⟩:=b;exact add_str (λa tk=>(ZC (.str _) H (I.tok _) ⟨_,rfl⟩ q)) k
def vals1(r:Vals [x] us): ∃u,us=[u]/\RelV x u:=by
 cases r with
 |cons r1 r2=>cases r2;exact Z0 _ rfl r1
def vals2(r:Vals [x,y] us): ∃u j,us=[u,j]/\RelV x u/\RelV y j:=by
 cases r with
 |cons r1 r2=>
  cases r2 with
  |cons r3 r4=>cases r4;exact ZC _ _ rfl r1 r3
def Ec(b:X.calm=true):CallR X (.builtin "min") (λxs H Q=> ∃i j,xs=[.int i,.int j]/\Q (.int (if j<i then j else i)) H):=by
 intro pins s σ H xs m Q I r h;refine h.d λi j v q=>?_;subst v;refine(vals2 r).b λu o y A B=>?_;subst y;obtain ⟨t,rfl⟩:=A;obtain ⟨c,rfl⟩:=B;refine min_two_ints (I.ok.hd b) λh' tk k=>(ZC _ H (I.kept k) ?_ q)
 by_cases a:j<i
 .rw[iP a,iP a];exact⟨_,rfl⟩
 .rw[iN0 a,iN0 a];exact⟨_,rfl⟩
end
structure ObjM(h:Heap)(x dx C:Addr)(mA:G0):Prop where
 obj:h.get? x=some (PySem.W.instObj C dx)
 ns:h.Ns1 dx mA
 ne:dx≠x
def ObjM.look(I:ObjM h x dx C mA): ∃k,PySem.W.InstAt h x (PySem.W.instObj C dx) C (some k)/\ ∀j,PySem.W.lookIn j k=some (mA j):=
 let ⟨k,c,w⟩:=(show ∃k,h.get? dx=some k/\ ∀j,PySem.W.lookIn j k=some (mA j) by
   refine(I.ns).o λo es B c s u _ m=>?_;refine Z0 o c (λj=>?_);have e:=m j;unfold nsFind findBy at e;rw[<-Array.find?_toList]at e;unfold PySem.W.lookIn;rw[s];dsimp only;split
   .rename_i y q;rw[q]at e;exact congrArg some e
   .rename_i q;rw[q]at e;have a:es.toList.any (·.refKey)=false:=by rw[ŀ];intro y A;refine(u y (Array.mem_toList_iff.mp A)).j λz t b=>?_;simp[DictEntry.refKey,b]
    have v: ¬es.toList.any (·.refKey)=true:=by rw[a];exact xF0
    rw[iN0 v];exact congrArg some e)
 (Z0 k ⟨I.obj,rfl,rfl,c⟩ w)
section
variable{s:ř}{K:O0}
def Jh(X:K.In s.heap)(I:ObjM s.heap x dx C mA)(a:PySem.W.plainGet K C name=true)
  (hf:PySem.W.findIn K (.ref C) name=some (some (.ref f))) (ht:PySem.W.isFn K (.ref f)=true) (hv:mA name=none) (h:Q (.ref f,[.ref x]) s):
  wpAny ↑3 A (getMethod (.ref x) name pl) Q E s:=by
 refine I.look.a λc J b=>?_;exact PySem.W.method_fn X J (PySem.W.plainGet_of a).1 (PySem.W.plainGet_of a).2 hf (Ħ.mp ht) (by show(PySem.W.lookIn name c).map _=some false;rw[b,hv];rfl) h
theorem Qc(X:K.In s.heap)(I:ObjM s.heap x dx C mA)
  (hs:PySem.W.findIn K (.ref C) "__setattr__"=some (some (.builtin "object.__setattr__"))) (hp:PySem.W.plainOver K C=true) (ht:PySem.W.takerIn K C name=some none) (hh:PySem.W.hasDictIn K C=true)
  (hw:PySem.Within mA ns) (hsz:ns.length<=sizeLine)
  (h: ∀h',ObjM h' x dx C (λy=>if y=name then some v else mA y)->Heap.SameBut dx s.heap h'->Q () {s with heap:=h',toks:=s.toks+2}):
  wpAny ↑3 A (setAttr (.ref x) name v) Q E s:=by
 refine I.look.a λH J G=>?_;refine PySem.W.set_plain X J hs (PySem.W.osa_open X J hp ht λb=>?_);refine(PySem.W.any_some hh).a λL u j=>?_;have B:=I.obj;refine wB (wP (wB (wB (wpAny_loadPart B (wB (PySem.W.Looks.here (PySem.W.looks_clsIn X u) ?_))))));rw[j];refine wP (wB (wP (wB ?_)));refine wpAny_nsSet1 I.ns λh' c a=>?_;refine(c.count (PySem.Within.cons name v hw)).i λF D q M=>M.f λm o k=>?_;refine wB (wpAny_lookBehind m (by rw[o];exact pastItsLine_dict (ì k (by rw[lC0];lia))) ?_);exact wP (h _ ⟨(a.2 _ (Ne.symm I.ne)).trans I.obj,c,I.ne⟩ a)
def Ji(X:K.In s.heap)(b:PySem.W.makesIn K C=true)
  (hi:PySem.W.findIn K (.ref C) "__init__"=some (some (.ref f))) (hf:PySem.W.typeIn K (.ref f)=some (.type "function"))
  (h:codeAny ↑3 (A.under (.builtin "type.__call__" ⟨.ref C::vs,kw⟩)) (.call (.ref f) ⟨.ref (↑0+1)::vs,kw⟩) (PySem.W.InitBack (↑0+1) R)
   {s with heap:=(s.heap.push PySem.W.emptyDict).push (PySem.W.instObj C ↑0)}):
  codeAny ↑3 A (.call (.ref C) ⟨vs,kw⟩) R s:=by
 exact PySem.W.make_core (PySem.W.makes_of X b) (PySem.W.looks_findIn X hi) (λa=>PySem.W.bind_fn X a hf) (.inl rfl) h
end
noncomputable def AN(f:Str)(v:V):List (Str×V)->List (Str×V)
 |[]=>[(f,v)]
 |(g,x)::r=>if g=f then(g,v)::r else(g,x)::AN f v r
theorem GR(f g)(v): ∀fs:List (Str×V),(AN f v fs).lookup g=if g=f then some v else fs.lookup g
 |[]=>by
  show List.lookup g [_]=_;by_cases h:g=f
  .have j:_=true:=Ħ.mpr h;simp only[List.lookup,j,iP h]
  .have j:_=false:=ğ.mpr h;simp only[List.lookup,j,iN0 h]
 |(k,x)::r=>by
  have b:=GR f g v r;(rw[show AN f v _=(if k=f then _::r else _::AN f v r)from rfl]);by_cases a:k=f
  .rw[iP a];by_cases h:g=k
   .have j:_=true:=Ħ.mpr h;simp only[List.lookup,j,iP (h.trans a)]
   .have j:_=false:=ğ.mpr h;simp only[List.lookup,j,iN0 (λe:g=f=>h (e.trans a.symm))]
  .rw[iN0 a];by_cases h:g=k
   .have j:_=true:=Ħ.mpr h;simp only[List.lookup,j,iN0 (λe:g=f=>a (h.symm.trans e))]
   .have j:_=false:=ğ.mpr h;simp only[List.lookup,j];exact b
theorem ET(f)(v): ∀fs:List (Str×V),f∈(AN f v fs).map (·.1)/\ ∀g,g∈fs.map (·.1)->g∈(AN f v fs).map (·.1)
 |[]=>⟨by simp[AN],λg h=>by simp at h⟩
 |(k,x)::r=>by
  obtain⟨m,j⟩:=ET f v r;(rw[show AN f v _=(if k=f then _::r else _::AN f v r)from rfl]);by_cases a:k=f
  .rw[iP a];subst a;exact⟨by simp,λg h=>by simpa using h⟩
  .rw[iN0 a];refine⟨?_,λg h=>?_⟩
   .rw[í];exact mO _ m
   .rw[í]at h ⊢;rcases mC.mp h with e|e
    .exact mC.mpr (.inl e)
    .exact mO _ (j g e)
theorem GS(f)(v): ∀fs:List (Str×V),(AN f v fs).length<=fs.length+1
 |[]=>by simp[AN]
 |(k,x)::r=>by
  have j:=GS f v r;(rw[show AN f v _=(if k=f then _::r else _::AN f v r)from rfl]);by_cases a:k=f
  .rw[iP a,lC0,lC0];lia
  .rw[iN0 a,lC0,lC0];lia
def RelO.some_of(r:RelO (some v) o): ∃u,o=some u/\RelV v u:=by
 cases o with
 |none=>exact r.elim
 |some u=>exact⟨u,rfl,r⟩
def RelO.none_of(r:RelO none o):o=none:=by
 cases o with
 |none=>rfl
 |some u=>exact r.elim
section
def Qd(b:HOk P w H h)(e:H a=some (.ins C dx fs)): ∃j,ObjM h a dx C j/\(∀f,RelO (fs.lookup f) (j f))/\PySem.Within j (fs.map (·.1))/\fs.length<=1000/\H dx=some (.own a):=by
 obtain⟨d,z,ne,ob,j,n,r,q⟩:=(b a _ e)
 exact⟨j,⟨ob,n,ne⟩,r,q,z,d⟩
end
structure Cls(K:O0)(C:Addr):Prop where
 pg:PySem.W.plainGet K C Str.empty=true
 hd:PySem.W.hasDictIn K C=true
 po:PySem.W.plainOver K C=true
 sa:PySem.W.findIn K (.ref C) "__setattr__"=some (some (.builtin "object.__setattr__"))
def Cls.get{K:O0}(c:Cls K C)(f):PySem.W.plainGet K C f=true:=c.pg
def NoAttr(K:O0)(C:Addr)(f:Str):Prop:=PySem.W.findIn K (.ref C) f=some none
theorem NoAttr.taker{K:O0}(n:NoAttr K C f):PySem.W.takerIn K C f=some none:=by unfold PySem.W.takerIn;rw[show PySem.W.findIn K _ f=some none from n];rfl
structure Meth(K:O0)(C:Addr)(m:Str)(f:Addr):Prop where
 at_:PySem.W.findIn K (.ref C) m=some (some (.ref f))
 fn:PySem.W.isFn K (.ref f)=true
 kp:PySem.W.keepIn K (.ref f)=true
section
theorem WU(I:↑1)(e:H a=some (.ins C dx fs))(c:Cls X.K C)(n:NoAttr X.K C f)(P:fs.length<1000)(F:RelV y u)
  (h: ∀m,Inv X pins σ (yV H a (.ins C dx (AN f y fs))) m->Q () m):wpAny ↑5 A (setAttr (.ref a) f u) Q E s:=by
 refine(Qd I.hok e).elim λD T=>T.h λO r k _ v=>?_;have J:(fs.map (·.1)).length<=sizeLine:=by rw[lM0,ý];lia
 refine Qc I.kIn O c.sa c.po n.taker c.hd k J λh' j B=>h _ ?_;have G: ∃o,h'.get? dx=some o:=let ⟨o,_,_,N,_⟩:=j.ns;⟨o,N⟩;refine I.write (by rw[e];exact True.intro) (.inr v) (λb q M z=>(B.2 b M).trans z) G ?_;refine⟨by rw[zD O.ne];exact v,?_,O.ne,j.obj,_,j.ns,λg=>?_,λg L=>?_⟩
 .have:=GS f y fs;lia
 .show RelO _ _;rw[GR];by_cases q:g=f
  .rw[iP q,iP q];exact F
  .rw[iN0 q,iN0 q];exact r g
 .by_cases q:g=f
  .rw[q];exact(ET f y fs).1
  .refine(ET f y fs).2 g (k g λz=>L ?_);show(if g=f then some u else D g)=none;rw[iN0 q];exact z
def Inv.made(I:↑1):Inv X pins σ (yV (yV H ↑0 (.own (↑0+1))) (↑0+1) (.ins C ↑0 []))
  {s with heap:=(s.heap.push PySem.W.emptyDict).push (PySem.W.instObj C ↑0)}:=by
 have a:(s.heap.push PySem.W.emptyDict).get? ↑0=some PySem.W.emptyDict:=ã s.heap rfl;have c:=by have:=ã (s.heap.push PySem.W.emptyDict) (o:=PySem.W.instObj C ↑0) rfl;rwa [Ĝ]at this
 have j:(s.heap.push PySem.W.emptyDict).Ns ↑0 (λ_=>none):=(Zq _ (#[]) _ a rfl (λe k=>absurd k (by simp)) (λ_=>rfl))
 have I1:=I.laid (o:=.own (↑0+1)) (t':=s.toks) (λb u q=>hP0 _ q) (à _) ⟨_,a⟩;refine I1.laid (λb u q=>hP0 _ q) (le_of_eq (Ĝ _ _)) ?_;have ne:↑0≠↑0+1:=ä (ę _);refine⟨by rw[zD ne,zO],zero_le _,ne,c,λ_=>none,(Heap.Ns1.of_empty j).at λo q=>hP0 _ q,λ_=>True.intro,λy m=>absurd rfl m⟩
end
def zAG(K:O0)(k m:TE)(f:Str):TS:=λD σ H=>m σ H λy j=>k σ j λx b=> ∃a C c fs,x=.ref a/\b a=some (.ins C c fs)/\Cls K C/\NoAttr K C f/\fs.length<1000/\
 D.nx σ (yV b a (.ins C c (AN f y fs)))
section
def Zu(G:PE X o ta)(J:PE X value tv)(hs:swapsWith value (some (.Attribute o f pos')) pos.line X.env=pure false):PS X (.Assign [.Attribute o f pos'] value pos) (zAG X.K ta tv f):=by (intro pins s σ H D I h);refine plainObj_wpAny_Assign_Attribute (xV (J pins s σ H _ I h) λu F ⟨y,w,I1,b,q⟩=>xV (G pins F σ w _ I1 q) λm L z0=>?_) hs;refine z0.b λx N k j z0=>?_;refine z0.q λa C M fs A v c n l B=>?_;subst A;obtain rfl:m=Value.ref a:=j;exact WU k v c n l b λO E=>(Zy (σ) _ E B)
end
section
variable{H:Hp}
inductive DL(K:O0)(H:Hp):V->Ś->Prop where
 |non:DL K H .non (.type "NoneType")
 |bl (x:Bool):DL K H (.bl x) (.type "bool")
 |int (i:Int):DL K H (.int i) (.type "int")
 |str (x:Str):DL K H (.str x) (.type "str")
 |flt (x:UInt64):DL K H (.flt x) (.type "float")
 |lst {a:Addr} {xs:List V} (e:H a=some (.lst xs)):DL K H (.ref a) (.type "list")
 |frz {a:Addr} {o:Obj} {xs:List V} (e:H a=some (.frz o (.lst xs))):DL K H (.ref a) (.type "list")
 |tup {a:Addr} {xs:List V} (e:H a=some (.tup xs)):DL K H (.ref a) (.type "tuple")
 |dK {a:Addr} {kvs:List (Key×V)} (e:H a=some (.dK kvs)):DL K H (.ref a) (.type "dict")
 |dT {a:Addr} {kvs:List (List Key×V)} (e:H a=some (.dT kvs)):DL K H (.ref a) (.type "dict")
 |ins {a C dx:Addr} {fs:List (Str×V)} (e:H a=some (.ins C dx fs)) (cl:Cls K C) (ha:PySem.W.findIn K (.ref C) "__class__"=some (some (.builtin "object.__class__")))
   (hn:PySem.W.specialIn K (.builtin "object.__class__") "__get__"=some (some (.builtin "getset_descriptor.__get__"))) (htk:PySem.W.takesIn K (.builtin "object.__class__")=some true)
   (hm:PySem.W.mroIn K C (.type "object")=some true):DL K H (.ref a) (.ref C)
end
structure Room(k:Nat)(A:Around):Prop where
 hd:A.handled=none
 dp:A.depth+3 * k+5<recursionLimit
 un:A.units+16 * k+200<cLine
 gd:A.guards=some []
theorem Room.mono(r:Room k A)(h:j<=k):Room j A:=⟨r.hd,by have:=r.dp;lia,by have:=r.un;lia,r.gd⟩
theorem Room.deeper(r:Room (k+1) A)(env):Room k (A.deeper env):=
 ⟨r.hd,by have:=r.dp;show A.depth+1+3 * k+5<_;lia,by have:=r.un;show A.units+3+16 * k+200<_;lia,r.gd⟩
theorem Room.in1(r:Room (k+1) A):Room k A.in1:=
 ⟨r.hd,by have:=r.dp;show A.depth+3 * k+5<_;lia,by have:=r.un;show A.units+1+16 * k+200<_;lia,r.gd⟩
def WW{A:Around}:(A.under (.builtin "type.__call__" ⟨.ref C::us,kw⟩)).units=A.units+1:=by
 first |rfl|simp[Code.cUnits]
theorem Room.make(r:Room (k+1) A)(C)(us)(kw):Room k (A.under (.builtin "type.__call__" ⟨.ref C::us,kw⟩)):=
 ⟨r.hd,by have:=r.dp;rw[(show (A.under (.builtin "type.__call__" ⟨.ref C::us,kw⟩)).depth=A.depth+1 by
   first |rfl|simp[Code.weight])];lia,by have:=r.un;rw[WW];lia,by unfold Around.under;dsimp only;rw[r.gd];first |rfl|simp[Code.guards,Code.isGuard,pushGuards]⟩
def Room.depth(r:Room k A):A.depth<recursionLimit:=by have:=r.dp;lia
def Room.units(r:Room k A):A.units+64<cLine:=by have:=r.un;lia
def zAH:TA:=λ_ H Q=>Q [] H
def Xh(c:TE)(tr:TA):TA:=λσ H Q=>c σ H λx a=>tr σ a λxs b=>Q (x::xs) b
section
variable{e:Expr}{pos:Pos}
def BO:PA X [] zAH:=λ_ _ _ _ H Q I h=>Calls.spliced_nil (ZC ([]) H I .nil h)
abbrev q9(X:Cx)(e:Expr)(es:List Expr):Prop:=starEach (e::es) X.env=(false,eval e X.env)::starEach es X.env
def aY(q:PE X e te)(k:PA X es t)(hs:q9 X e es:=by rfl):PA X (e::es) (Xh te t):=by intro pos pins s σ H Q I h;rw[hs];show wpAny _ _ _ _ _ s;refine Calls.spliced_cons (xV (q pins s σ H _ I h) λu m ⟨x,b,I1,a,w⟩=>?_);exact xV (k pos pins m σ b _ I1 w) λA y ⟨xs,v,o,c,j⟩=>(ZC _ v o (.cons a c) j)
def tTup(t:TA):TE:=λσ H Q=>t σ H λxs a=>↑12<=sizeLine/\ ∀p,a p=none->Q (.ref p) (yV a p (.tup xs))
def tLst(t:TA):TE:=λσ H Q=>t σ H λxs a=>↑12<=sizeLine/\ ∀p,a p=none->Q (.ref p) (yV a p (.lst xs))
end
abbrev Sp:=List V->Hp->VK->XK->Prop
abbrev Ef:=List Env->Hp->Shared->XK->VP
structure Env0(P:ś)(w:World)(K:O0)(mg:G0)(base:Heap)(A:Around)(outer:List Env)(s:ř)(H:Hp):Prop where
 frames:A.frames=some outer
 mod:Mod K mg base
 bs: ∀b o,base.get? b=some o->s.heap.get? b=some o/\H b=none
 bsz:Bsz P K base s.heap H
 funs:s.heap.FunFrames base outer
 frf: ∀b∈MA outer,H b=none
 hok:HOk P w H s.heap
 bare:AllBare s.gens
def CE(outer:List Env)(P:ś)(w:World)(H:Hp)(s:ř)(Q:VK)(u:Ś)(a:ř):Prop:=
 ∃v H',a.os=s.os/\AllBare a.gens/\Un (MA outer) [] H H' s.heap a.heap/\HOk P w H' a.heap/\RelV v u/\Q v H'
def CR(CX:Ef)(outer:List Env)(P:ś)(w:World)(H:Hp)(s:ř)(Q:VK)(E:XK)(r:Result)(a:ř):Prop:=
 match r with
 |.ok (.ret u)=>CE outer P w H s Q u a
 |.ok _=>False
 |.error e=>CX outer H s E e a
structure FnOk(P:ś)(w:World)(K:O0)(mg:G0)(base:Heap)(CX:Ef)(k:Nat)(f:Addr)(fd:FuncData)(ps:D0)(sp:Sp):Prop where
 len: ∀vs H Q E,sp vs H Q E->(vs.length)=ps.length
 run: ∀(A:Around)(outer:List Env)(s:ř)(H:Hp)(args:Args)(us:A0)(vs:List V)(Q:VK)(E:XK),Room k A->Env0 P w K mg base A outer s H->BindsTo s fd args (ps.zip us)->Vals vs us->sp vs H Q E->
  codeAny (model P w) A (.call (.ref f) args) (CR CX outer P w H s Q E) s
def FnOk.imp{K:O0}(F:FnOk P w K mg base CX k f fd ps sp)
  (h: ∀vs H Q E,sp' vs H Q E->sp vs H Q E):FnOk P w K mg base CX k f fd ps sp':=
 ⟨λvs H Q E q=>F.len vs H Q E (h _ _ _ _ q),λA a s H b c vs Q E o j u m hs=>F.run A a s H b c vs Q E o j u m (h _ _ _ _ hs)⟩
def Env0.make{K:O0}(e:Env0 P w K mg base A outer s H)(C)(us)(kw):
  Env0 P w K mg base (A.under (.builtin "type.__call__" ⟨.ref C::us,kw⟩)) outer s H:=⟨by first |exact e.frames|(simpa [Around.under,Code.envs,Code.isFrame,pushEnvs]using e.frames),e.mod,e.bs,e.bsz,e.funs,e.frf,e.hok,e.bare⟩
def Env0.in1{K:O0}(e:Env0 P w K mg base A outer s H):
  Env0 P w K mg base A.in1 outer s H:=⟨e.frames,e.mod,e.bs,e.bsz,e.funs,e.frf,e.hok,e.bare⟩
section
def Inv.env0(I:↑1):Env0 X.prog X.w X.K X.mg X.base X.A X.stack s H:=
 ⟨I.ok.frames,I.ok.mod,I.bs,I.bsz,I.stack,I.stkFree,I.hok,I.bare⟩
def Inv.after(I:↑1)(h:CE X.stack X.prog X.w H s Q u s'):EP X pins σ Q u s':=by refine h.j λv H' m=>m.g λos a un j r q=>?_;obtain⟨k,g,d,t,c⟩:=s';obtain rfl:c=s.os:=os;exact ZC v H' (I.call un j a (λb z=>absurd z (by simp))) r q
end
def zAI(sp:Sp)(a:List V)(E:XK)(t:TA):TE:=λσ H Q=>t σ H λb c=>sp (b++a) c Q E
def Xi(C:Addr)(sp:Sp)(c:List V)(E:XK)(t:TA):TE:=λσ H Q=>t σ H λj b=> ∀x a,b x=none->b a=none->a≠x->
 sp (.ref x::(j++c)) (yV (yV b a (.own x)) x (.ins C a [])) (λv k=>v=.non/\Q (.ref x) k) E
def Binds(K:O0)(b:FuncData)(ps:D0)(ds:A0):Prop:=
 ∀(s:ř)(a:A0),K.In s.heap->(a++ds).length=ps.length->BindsTo s b ⟨a,[]⟩ (ps.zip (a++ds))
def Binds.all{K:O0}(h: ∀j:List Ś,(j.length)=ps.length->bindArgs fd ⟨j,[]⟩=pure (ps.zip j)):Binds K fd ps []:=λs j _ a=>by rw[aN]at a ⊢;exact .of_eq (h j a)
def EU(CX:Ef)(X:Cx)(E:XK):Prop:= ∀(pins:L0)(σ:St)(H:Hp)(s:ř)(e:Ś)(a:ř),Inv X pins σ H s->CX X.stack H s E e a->X.xe e a
section
variable{f C:Addr}{p pos:Pos}{e:Expr}
def Jj(F:(FnOk X.prog X.w X.K X.mg X.base CX k f fd ps sp))(o:Room k X.A)(j:Binds X.K fd ps ds)(m:Vals dvs ds)(q:EU CX X E)
  (I:↑1) (r:Vals vs us) (h:sp (vs++dvs) H Q E):wpAny ↑5 X.A (call (.ref f) us) (EP X pins σ Q) X.xe s:=by
 have b:Vals _ _:=r.append m;refine wpAny_call (İ (F.run X.A X.stack s H ⟨us,[]⟩ _ _ Q E o I.env0 (j s us I.kIn (by rw[<-b.length];exact F.len _ _ _ _ h)) b h) λr c a=>?_)
 cases r with
 |error e=>exact q pins σ H s e c I a
 |ok fl=>
  cases fl with
  |ret u=>exact I.after a
  |next=>exact False.elim a
  |brk=>exact False.elim a
  |cont=>exact False.elim a
abbrev Q1(X:Cx)(p:Pos)(es:List Expr):Prop:=(backTo p (starEach es X.env)).any (·.1)=false
def Qf(F:(FnOk X.prog X.w X.K X.mg X.base CX k f fd ps sp))(c:Room k X.A)(o:Gl X x)(a:X.mg x=some (.ref f))(m:PySem.W.keepIn X.K (.ref f)=true)(u:Binds X.K fd ps ds)(b:Vals dvs ds)(j:EU CX X E)
  (ha:PA X (e::es) t) (hdb:(x==("__debug__"))=false:=by decide) (he:q9 X e es:=by rfl) (hpl:Q1 X pos es:=by rfl):
  PE X (.Call (.Name x p) (e::es) [] pos) (zAI sp dvs E t):=by
 rw[22];refine ő (vK I o a ?_ hdb);refine PySem.W.callWith_K I.ok.mod.kin m (xV (ha pos pins s σ H _ I h) λB C ⟨v,y,I1,r,q⟩=>⟨I1.kIn,?_⟩) he hpl;exact Jj F c u b j I1 r q
structure Mk(K:O0)(C f:Addr):Prop where
 makes:PySem.W.makesIn K C=true
 init:PySem.W.findIn K (.ref C) "__init__"=some (some (.ref f))
 fn:PySem.W.isFn K (.ref f)=true
 kp:PySem.W.keepIn K (.ref C)=true
def Jk(M:Mk X.K C f)(F:(FnOk X.prog X.w X.K X.mg X.base CX k f fd ps sp))(B:Room (k+1) X.A)(N:Binds X.K fd ps ds)(y:Vals dvs ds)
  (hx:EU CX X E) (I:↑1) (r:Vals vs us)
  (h: ∀x j,H x=none->H j=none->j≠x->sp (.ref x::(vs++dvs)) (yV (yV H j (.own x)) x (.ins C j [])) (λv J=>v=.non/\Q (.ref x) J) E):
  wpAny ↑5 X.A (call (.ref C) us) (EP X pins σ Q) X.xe s:=by
 have c:=h _ ↑0 (I.hok.fresh (le_succ _)) (I.hok.fresh (à _)) (ä (ę _));have b:=Inv.made (C:=C) I;have m:Vals (V.ref (↑0+1)::_) _:=.cons rfl (r.append y);have G:=by have e:=m.length;rw[F.len _ _ _ _ c]at e;exact e.symm
 refine wpAny_call (Ji I.kIn M.makes M.init (Ħ.mp M.fn) (İ (F.run _ X.stack _ _ ⟨_,[]⟩ _ _ _ E (B.make C us [])
  (b.env0.make C us []) (N _ _ b.kIn G) m c) λr L a=>?_))
 cases r with
 |error e=>exact hx pins σ _ _ e L b a
 |ok fl=>
  cases fl with
  |ret u=>
   refine(b.after a).k λv H' D o q O=>?_;subst q;exact⟨o,(ZC (V.ref _) H' D rfl O)⟩
  |next=>exact False.elim a
  |brk=>exact False.elim a
  |cont=>exact False.elim a
def Qg(M:Mk X.K C f)(F:(FnOk X.prog X.w X.K X.mg X.base CX k f fd ps sp))(c:Room (k+1) X.A)(m:Gl X x)(a:X.mg x=some (.ref C))(o:Binds X.K fd ps ds)(b:Vals dvs ds)(j:EU CX X E)
  (ha:PA X (e::es) t) (hdb:(x==("__debug__"))=false:=by decide) (he:q9 X e es:=by rfl) (hpl:Q1 X pos es:=by rfl):
  PE X (.Call (.Name x p) (e::es) [] pos) (Xi C sp dvs E t):=by
 rw[22];refine ő (vK I m a ?_ hdb);refine PySem.W.callWith_K I.ok.mod.kin M.kp (xV (ha pos pins s σ H _ I h) λy B ⟨u,v,I1,r,q⟩=>⟨I1.kIn,?_⟩) he hpl;exact Jk M F c o b j I1 r q
end
structure FnScope(N P:D0)(sc:Scope):Prop where
 kind:sc.kind=.function
 co:sc.isCoroutine=false
 gen:sc.isGenerator=false
 nd:N.Nodup
 pre:N.take P.length=P
 par: ∀x∈P,sc.names.lookup x=some .local\/sc.names.lookup x=some .cell
 nofree: ∀y∈sc.names,y.2≠.free
def fsK{N:D0}{j:Scope}(h:N.Nodup/\N.take P.length=P/\(∀x∈P,j.names.lookup x=some .local\/j.names.lookup x=some .cell)/\∀y∈j.names,y.2≠.free)(a:j.kind=.function:=by rfl)(b:j.isCoroutine=false:=by rfl)(c:j.isGenerator=false:=by rfl):FnScope N P j:=⟨a,b,c,h.1,h.2.1,h.2.2.1,h.2.2.2⟩
theorem NA{a:Str->Option NameKind}: ∀{binds}{m},(∀v,(x,v)∉binds)->bindL a binds m x=m x
 |[],_,_=>rfl
 |(n,v)::r,m,h=>by
  unfold bindL;rw[NA λw hw=>h w (mO _ hw)];split
  .have:x≠n:=by rintro rfl;exact h v mF0
   simp[this]
  .rfl
theorem NB{a:Str->Option NameKind}: ∀{binds}{m},(∀v,(x,v)∉binds)->bindC a binds m x=m x
 |[],_,_=>rfl
 |(n,v)::r,m,h=>by
  unfold bindC;rw[NB λw hw=>h w (mO _ hw)];split
  .rfl
  .have:x≠n:=by rintro rfl;exact h v mF0
   simp[this]
theorem NC{a:Str->Option NameKind}: ∀{P:D0}{vs}{i:Nat}{m},P.Nodup->P[i]? =some x->vs[i]? =some v->a x=some .local->
  bindL a (P.zip vs) m x=some v
 |[],_,_,_,_,h,_,_=>by simp at h
 |_::_,[],_,_,_,_,h,_=>by simp at h
 |p::P,w::vs,0,m,nd,h1,h2,hk=>by simp at h1 h2;subst h1;subst h2;show bindL a (_::P.zip vs) m p=_;unfold bindL;rw[NA λv j=>(nodup_cons.mp nd).1 (of_mem_zip j).1,iP hk];simp
 |p::P,w::vs,i+1,m,nd,h1,h2,hk=>by show bindL a _ m x=_;unfold bindL;exact NC (nodup_cons.mp nd).2 (by simpa using h1) (by simpa using h2) hk
theorem ND{a:Str->Option NameKind}: ∀{P:D0}{vs}{i:Nat}{m},P.Nodup->P[i]? =some x->vs[i]? =some v->a x≠some .local->
  bindC a (P.zip vs) m x=some v
 |[],_,_,_,_,h,_,_=>by simp at h
 |_::_,[],_,_,_,_,h,_=>by simp at h
 |p::P,w::vs,0,m,nd,h1,h2,hk=>by simp at h1 h2;subst h1;subst h2;show bindC a (_::P.zip vs) m p=_;unfold bindC;rw[NB λv j=>(nodup_cons.mp nd).1 (of_mem_zip j).1,iN0 hk];simp
 |p::P,w::vs,i+1,m,nd,h1,h2,hk=>by show bindC a _ m x=_;unfold bindC;exact ND (nodup_cons.mp nd).2 (by simpa using h1) (by simpa using h2) hk
noncomputable def start(N:D0)(vs:List V):St:=vs.map some++List.replicate (N.length - (vs.length)) none
noncomputable def IU(CX:Ef)(P:ś)(w:World)(K:O0)(mg:G0)(base:Heap)(N:D0)(qual:Str)(scope:Scope)(f:Addr)(cd:Ś)(A:Around)(outer:List Env)(s:ř)(H:Hp)(E:XK):Cx where
 prog:=P
 w:=w
 K:=K
 mg:=mg
 base:=base
 A:=A.deeper (envOfC qual scope ↑0 f cd)
 N:=N
 s₀:=s
 H₀:=H
 env:=envOfC qual scope ↑0 f cd
 outer:=outer
 stack:=envOfC qual scope ↑0 f cd::outer
 ex:=[]
 calm:=true
 fn:=λ_=>true
 pn:=[]
 xe:=λe s'=>wpAny (model P w) (A.deeper (envOfC qual scope ↑0 f cd)) (leaving (envOfC qual scope ↑0 f cd) e) (λ_ s''=>CX outer H s E e s'') (λe' s''=>CX outer H s E e' s'') s'
def TF{a:Scope}(h:a.names.lookup x=some .cell): ∃c,(cellsFrom n a.names []).lookup x=some c:=by exact ü.mp (PySem.W.cellsFrom_some a.names n [] (.inl h))
theorem Eg{K:O0}
  (S:FnScope N ps scope) (hd:(A.handled=none)) (e0:Env0 P w K mg base A outer s H) (hl:(vs.length)=ps.length) (r:Vals vs us)
  (x:InCallC s ↑0 (bindL (envOfC qual scope ↑0 f cd).kindOf (ps.zip us) λ_=>none) (cellsFrom (↑0+1) scope.names []) (bindC (envOfC qual scope ↑0 f cd).kindOf (ps.zip us) λ_=>none) s1):
  Inv (IU CX P w K mg base N qual scope f cd A outer s H E) [] (start N vs) H s1:=by
 have I:=by have:=congrArg List.length S.pre;rw[lT]at this;omega
 refine x.done.d λD tk O G=>?_;subst O;have m: ∀b:Addr,b∉(IU CX P w K mg base N qual scope f cd A outer s H E).ex:=λb z=>absurd (show b∈([]:B9)from z) (by simp)
 refine⟨⟨e0.mod,S.kind,rfl,rfl,à _,λy z c D j=>?_,λy o=>?_,λy c _ h=>?_,λ_=>hd,Around.frames_deeper e0.frames,.inr ⟨rfl,rfl⟩,λb z=>absurd z (m b),e0.bs,e0.bsz,λb _ _=>m b,λb z=>absurd z (m b),e0.funs,e0.frf⟩,
  rfl,e0.bare,Un.kept G,(Z0 _ x.toInCall.ns (λi y v D j M=>?_)),λy c h=>⟨_,x.cell y c h⟩,e0.hok.fresh (à _),λy c h=>?_,λp C=>absurd (show p∈([]:List _)from C) (by simp),e0.hok.kept G,?_⟩
 .exact name_of_addr x.apart (PySem.mem_of_lookup D) (PySem.mem_of_lookup j)
 .have o:=o;rcases o with o|o
  .exact TF o
  .exact absurd rfl (S.nofree _ (PySem.mem_of_lookup o))
 .exact le_of_lt (x.above y c (PySem.mem_of_lookup h))
 .have hi:i<vs.length:=by
   unfold start at j;by_cases hi:i<(vs.length)
   .exact hi
   .rw[ð (by simpa using hi)]at j;rw[List.getElem?_replicate]at j;split at j<;>cases j
  have L:vs[i]? =some v:=by
   unfold start at j;rw[è (by simpa using hi),î]at j
   cases e:vs[i]? with
   |none=>rw[e]at j;cases j
   |some a=>rw[e]at j;cases j;rfl
  refine(r.get L).a λu F J=>?_;have C:ps[i]? =some y:=by rw[<-S.pre,Ŋ (by omega)];exact D
  have B:ps.Nodup:=by rw[<-S.pre];exact S.nd.sublist (take_sublist _ _)
  refine Z0 u J ?_;rcases S.par y (ë C)with k|k
  .exact .inl ⟨k,NC B C F k⟩
  .obtain⟨c,e⟩:=TF k;refine .inr ⟨.inl k,c,e,?_⟩;have q:=x.cell y c e;rw[ND B C F (by show scope.names.lookup y≠_;rw[k];decide)]at q;exact q
 .exact .inl (e0.hok.fresh (le_of_lt (x.above y c (PySem.mem_of_lookup h))))
 .unfold start;show _=N.length;rw[lA,lM0,Ģ]
  lia
def Xj{K:O0}{kV:Ś}
     (lk:K.lookup f=some ⟨oc,od,.func (PySem.W.fnOf name qual params body scope dV kV doc pm an cdv ct),osl⟩) (hcd:PySem.W.codeIn K cdv qual=true) (S:FnScope N ps scope)
  (len: ∀vs H Q E,sp vs H Q E->(vs.length)=ps.length)
  (hbody: ∀ A  outer  s  H  vs  Q  E ,Room k (A.deeper (envOfC qual scope ↑0 f cdv))->sp vs H Q E->
   ∃t,PSs (IU CX P w K mg base N qual scope f cdv A outer s H E) body t/\t {nx:=λ_ H'=>Q .non H',rt:=Q} (start N vs) H):
  FnOk P w K mg base CX (k+1) f (PySem.W.fnOf name qual params body scope dV kV doc pm an cdv ct) ps sp:=by
 refine⟨len,λA outer s H G M vs Q E D j Y r m=>?_⟩;have KX:=j.mod.kin.keeps λb o e=>(j.bs b o e).1
 have c: ∀y∈ps.zip M,scope.names.lookup y.1=some .local\/(scope.names.lookup y.1=some .cell/\((cellsFrom (↑0+1) scope.names []).lookup y.1).isSome=true):=λ⟨n,v⟩ O=>by
  rcases S.par n (of_mem_zip O).1 with q|q
  .exact .inl q
  .exact .inr ⟨q,PySem.W.cellsFrom_some _ _ _ (.inl q)⟩
 refine codeAny_call_function D.depth (KX _ _ lk) rfl S.co S.gen rfl (PySem.W.codeRec_of KX hcd) (Y _ _ _ _ ?_);refine wpAny_newFunctionEnv_cells S.kind c λX T U x=>?_;subst T;refine⟨(j.mod.nolimit.keeps λb o e=>(j.bs b o e).1).keeps x.toInCall.keep,codeAny_func ?_⟩;refine(hbody A outer s H vs Q E (D.deeper _) m).a λt L I=>?_;refine ċ (L [] U _ H _ (Eg S D.hd j (len _ _ _ _ m) r x) I) (λfl F hs=>?_) λe F hs=>hs
 have B: ∀{a:St}{H':Hp}{v:V}{u:Ś},Inv (IU CX P w K mg base N qual scope f cdv A outer s H E) [] a H' F->RelV v u->Q v H'->CE outer P w H s Q u F:=
  λ{a H' v u} J C q=>(Zb v H' ⟨J.os,J.bare,J.base,J.hok,C,q⟩)
 cases fl with
 |ret u=>
  refine hs.i λv a H' Z=>Z.f λJ C q=>?_;exact B J C q
 |next=>
  refine hs.d λa H' J q=>?_;exact B (v:=V.non) J rfl q
 |brk=>
  refine hs.d λ_ _ _ q=>?_;exact False.elim q
 |cont=>
  refine hs.d λ_ _ _ q=>?_;exact False.elim q
section
variable{p pos:Pos}{id:String}
def tCB(r:List V->Hp->VK->Prop)(t:TA):TE:=λσ H Q=>t σ H λa b=>r a b Q
def tL(k:CallR X (.builtin id) r)(u:Gl X x)(j:X.mg x=none)(w:bootBuiltins x=some (.builtin id))(v:PA X (e::es) t)(o:x≠"__name__":=by decide)(a:(x==("__debug__"))=false:=by decide)
  (he:q9 X e es:=by rfl) (hpl:Q1 X pos es:=by rfl):PE X (.Call (.Name x p) (e::es) [] pos) (tCB r t):=by
 rw[22];refine ő (ER I u j w ?_ o a);exact PyProof.Rows.callWith_builtin1 (xV (v pos pins s σ H _ I h) λm q ⟨b,c,I1,A,y⟩=>k pins q σ c b m Q I1 A y) he hpl
def pR(k:CallR X (.type T) r)(u:Gl X x)(j:X.mg x=none)(w:bootBuiltins x=some (.type T))(v:PA X (e::es) t)(o:x≠"__name__":=by decide)(a:(x==("__debug__"))=false:=by decide)
  (he:q9 X e es:=by rfl) (hpl:Q1 X pos es:=by rfl):PE X (.Call (.Name x p) (e::es) [] pos) (tCB r t):=by
 rw[22];refine ő (ER I u j w ?_ o a);exact ķ (xV (v pos pins s σ H _ I h) λm q ⟨b,c,I1,A,y⟩=>k pins q σ c b m Q I1 A y) he hpl
end
end L2
namespace HT
open PySem PyProof.Rows
section
def cat_tup(D:IsTup s.heap t (vs.toArray))(G:IsTup s.heap b ws.toArray)(v:vs≠[])
  (h1:ws=[]->Q (.ref t) s) (h2:ws≠[]->Q (.ref ↑0) {s with heap:=s.heap.push {cls:=.type "tuple",data:=.seq (vs++ws).toArray}})
  (hsz:(vs.length)+ws.length<=sizeLine):wpAny ↑3 A (binaryOp .Add (.ref t) (.ref b)) Q E s:=by
 obtain⟨⟨cls,q,data,sl⟩,k,B,n,C⟩:=id D;obtain⟨⟨u,c,_,j⟩,a,o,y,m⟩:=id G;subst B C o m;have e:(vs.toArray)++ws.toArray=(vs++ws).toArray:=by simp
 by_cases hw:ws=[]
 .exact concat_meets ⟨_,k,rfl⟩ ⟨_,a,rfl⟩ noFill_tuple_add seq_tuple_add PySem.F.slot_tuple_add PySem.F.entry_tuple_add (PySem.F.args_tuple_add_2 _ _)
   (tuple_addW1 t b (vs.toArray) ws.toArray n y q c sl j (by simpa using v) (by simp[hw])) ⟨k,a,h1 hw⟩
 .refine concat_meets ⟨_,k,rfl⟩ ⟨_,a,rfl⟩ noFill_tuple_add seq_tuple_add PySem.F.slot_tuple_add PySem.F.entry_tuple_add (PySem.F.args_tuple_add_2 _ _)
   (tuple_addW2 t b (vs.toArray) ws.toArray n y q c sl j (by simpa using v) (by simpa using hw) (by rw[sA];exact hsz)) ⟨k,a,?_⟩
  rw[e];exact h2 hw
noncomputable def sIx(n d:Nat):Option Int->Nat
 |none=>d
 |some v=>if v<0 then(v+(n:Int)).toNat else min v.toNat n
theorem sIx_nat(n d k:Nat):sIx n d (some  k )=min k n:=by show(if(k:Int)<0 then((k:Int)+(n:Int)).toNat else min (k:Int).toNat n)=min k n;rw[iN0 #[0],Ē]
theorem sIx_le(n d)(b:d<=n)(o):sIx n d o<=n:=by
 cases o with
 |none=>exact b
 |some v=>
  show(if v<0 then(v+_).toNat else min v.toNat n)<=n;by_cases a:v<0
  .rw[iP a];lia
  .rw[iN0 a];exact Nat.min_le_right _ _
theorem Ad(v)(n d:Nat):(if v<0 then max (v+(n:Int)) 0 else min v  n )=((sIx n d (some v):Nat)):=by
 show _=(((if v<0 then(v+_).toNat else min v.toNat n):Nat):Int)
 by_cases a:v<0
 .simp only[iP a];lia
 .simp only[iN0 a];lia
theorem WY(i j:Nat):Builtin.Slice.slicePlaces  i   j  1=j - i:=by
 unfold Builtin.Slice.slicePlaces;have a:(1:Int)>0:=by lia
 split<;>lia
def IV(p:IsPart v o)(h:Q o s):wpAny ↑3 A (Builtin.Slice.slicePartIndex v) Q E s:=by
 cases p with
 |none=>exact slicePart_none h
 |int i t=>exact slicePart_int h
def sliceApplied_gen{lo:M0}{Q:Int×Int×Nat->ř->Prop}(hs:s.heap.IsSliceOf sl vl vu .none)(c:IsPart vl lo)(k:IsPart vu hi)
  (h:Q (((sIx n 0 lo:Nat)),1,sIx n n hi - sIx n 0 lo) s):wpAny ↑3 A (Builtin.Slice.sliceApplied (.ref sl) (pure  n )) Q E s:=by
 refine(id hs).c λos b j a=>?_;refine wB (wB (ē b a rfl (wB (ē b a rfl (wB (ē b a rfl (wP ?_)))))));refine wB (slicePart_none ?_);show wpAny _ _ _ _ _ s;refine wB (IV c (wB (IV k (wB (wP ?_)))));show wpAny _ _ (match Builtin.Slice.sliceAdjust lo hi 1 _ with |(lo,hi)=>pure (lo,_,Builtin.Slice.slicePlaces lo hi 1)) _ _ s;rw[(show Builtin.Slice.sliceAdjust lo hi 1  n =(((sIx n 0 lo):Int),((sIx n n hi):Int)) by
   have m: ¬((1:Int)<0):=by lia
   unfold Builtin.Slice.sliceAdjust;refine Prod.ext ?_ ?_
   .cases lo with
    |none=>rfl
    |some v=>exact Ad v n 0
   .cases hi with
    |none=>rfl
    |some v=>exact Ad v n n)];show wpAny _ _ (pure _) _ _ s;rw[WY];exact wP h
theorem Jl(xs:B0)(i k:Nat):((List.range k).filterMap λ(m:Nat)=>xs[( i +(m:Int) * 1).toNat]?).toArray=((xs.toList.drop i).take k).toArray:=by
 have e:(λ(m:Nat)=>xs[((i:Int)+(m:Int) * 1).toNat]?)=λm=>xs[i+m]? :=by
  funext m;have:((i:Int)+(m:Int) * 1).toNat=i+m:=by lia
  rw[this]
 rw[e];have:=pick_run xs i k;rw[List.filterMap_map]at this;have a:((λx=>xs[x]?)∘λx=>i+x)=λm=>xs[i+m]? :=rfl;rw[a]at this;rw[this]
def getItem_tuple_cut{lo:M0}(b:IsTup s.heap t items)(hs:s.heap.IsSliceOf sl vl vu .none)(u:IsPart vl lo)(v:IsPart vu hi)
  (hw: ¬(sIx (items.size) 0 lo=0/\sIx (items.size) (items.size) hi=(items.size)))
  (h:Q (.ref ↑0) {s with heap:=s.heap.push {cls:=.type "tuple",data:=.seq ((items.toList.drop (sIx (items.size) 0 lo)).take (sIx (items.size) (items.size) hi - sIx (items.size) 0 lo)).toArray}})
  (hsz:(items.size)<=sizeLine):wpAny ↑3 A (getItem (.ref t) (.ref sl)) Q E s:=by
 have a:sizeOk (.seq ((items.toList.drop (sIx (items.size) 0 lo)).take (sIx (items.size) (items.size) hi - sIx (items.size) 0 lo)).toArray):=by show((items.toList.drop _).take _).toArray.size<=sizeLine;rw[sA,lT,č,á];omega
 refine(id hs).c λos c m o=>?_;have k:s.TypeIs (.ref sl) "slice":=(Z0 os c m)
 unfold getItem
 try with_reducible refine û ?_
 first |refine wB _|skip
 refine wB (wpAny_sequenceKey b.typeIs ↑4 ?_)
 refine wB (ď b.typeIs Į
  (õ Į b.typeIs entry_tuple_getitem ?_ (args_tuple_getitem _ _)))
 show wpAny _ _ (Builtin.Tuple.tupleItemsOf _ >>= _) _ _ s;refine wB (tupleItemsOf_ b ?_);refine wB (ı k ?_);refine wB (sliceApplied_gen hs u v ?_);have j: ¬((((sIx (items.size) 0 lo:Nat):Int)==0&&(1:Int)==1&&(sIx (items.size) (items.size) hi - sIx (items.size) 0 lo)==(items.size))=true):=by intro q;rw[aE,aE]at q;have y:(_:Int)=0:=eq_of_beq q.1.1;have B:=eq_of_beq q.2;exact hw ⟨by omega,by omega⟩
 (show wpAny _ _ (if _=true then _ else _) _ _ s);rw[iN0 j,Jl]
 first
  |exact wB (Ą (wP (Z0 _ rfl (wP h))) a)
  |exact wB _
  |exact wB _
  |exact wB _
end
end HT
namespace L2
open PySem PySem.Spec PyProof.Rows
abbrev TO:=St->Hp->(Option Int->Hp->Prop)->Prop
def PO(X:Cx)(e:Option Expr)(t:TO):Prop:=
 ∀(pins:L0)(s:ř)(σ:St)(H:Hp)(Q:Option Int->Hp->Prop),Inv X pins σ H s->t σ H Q->
  wpAny ↑5 X.A (evalPart e X.env) (λu a=> ∃o H',Inv X pins σ H' a/\IsPart u o/\Q o H') X.xe s
def Qh:TO:=λ_ H Q=>Q none H
def zAJ(t:TE):TO:=λσ H Q=>t σ H λx a=> ∃i,x=.int i/\Q (some i) a
section
variable{lo hi:Option Expr}{p2:Pos}
def Qj(h:PE X e te):PO X (some e) (zAJ te):=by intro pins s σ H Q I hw;refine xV (h pins s σ H _ I hw) λu j ⟨x,a,I1,c,b⟩=>?_;refine b.a λi k q=>?_;subst k;obtain⟨t,rfl⟩:=c;exact ZC _ a I1 (.int i t) q
def SlR(X:Cx)(r:V->Option Int->Option Int->Hp->VK->Prop):Prop:=
 ∀(pins:L0)(s:ř)(σ:St)(H:Hp)(x:V)(v a b:Ś)(lo hi:M0)(sl:Addr)(Q:VK),Inv X pins σ H s->RelV x v->s.heap.IsSliceOf sl a b .none->IsPart a lo->IsPart b hi->r x lo hi H Q->
  ∃T id,typeLookup (.type T) "__getitem__"=pure (some (.builtin id))/\s.TypeIs v T/\wpAny ↑5 X.A (getItem v (.ref sl)) (EP X pins σ Q) X.xe s
def SlR.or(h:SlR X r)(h':SlR X r'):SlR X (λx lo hi H Q=>r x lo hi H Q\/r' x lo hi H Q):=by
 intro pins s σ H x v a b lo hi sl Q I k hs c j q;rcases q with q|q
 .exact h pins s σ H x v a b lo hi sl Q I k hs c j q
 .exact h' pins s σ H x v a b lo hi sl Q I k hs c j q
def tSl(r:V->Option Int->Option Int->Hp->VK->Prop)(c:TE)(j th:TO):TE:=λσ H Q=>c σ H λx a=>j σ a λl b=>th σ b λu k=>r x l u k Q
def Jm(L:SlR X r)(y:PE X e te)(S:PO X lo tl)(M:PO X hi th):PE X (.Subscript e (.Slice lo hi none p2) pos) (tSl r te tl th):=by rw[22];refine Subscript_ (xV (y pins s σ H _ I h) λv O ⟨x,F,I1,U,B⟩=>?_);refine wpAny_Slice (xV (S pins O σ F _ I1 B) λj k ⟨l,w,o,J,G⟩=>xV (M pins k σ w _ o G) λc a ⟨u,C,N,K,D⟩=>?_);refine wP ?_;refine(L pins {a with heap:=a.heap.push {cls:=.type "slice",data:=.fields #[j,c,.none]}} σ C x v j c l u (a.heap.objs.size) Q (N.kept λb ob q=>hP0 _ q) U (Heap.IsSliceOf.new ..) J K D).b λT id E m P=>?_;show wpAny _ X.A _ _ X.xe {a with heap:=a.heap.push {cls:=.type "slice",data:=.fields #[j,c,.none]}};exact tail_any m E P (by with_unfolding_all rfl)
def Eh(xs:List V)(lo hi:M0):List V:=(xs.drop (HT.sIx ↑12 0 lo)).take (HT.sIx ↑12 ↑12 hi - HT.sIx ↑12 0 lo)
theorem GT(xs)(lo hi):(Eh xs lo hi).length<=xs.length:=by
 unfold Eh;rw[lT,č]
 lia
def rSlT(K:O0):V->Option Int->Option Int->Hp->VK->Prop:=λx lo hi H Q=> ∃a xs,x=.ref a/\SqT K H a xs/\
 ¬(HT.sIx ↑12 0 lo=0/\HT.sIx ↑12 ↑12 hi=↑12)/\ ∀p,H p=none->Q (.ref p) (yV H p (.tup (Eh xs lo hi)))
def Zx:SlR X (rSlT X.K):=by
 intro pins s σ H x v A B lo hi sl Q I y hs o w h;refine h.k λa xs C u hw q=>?_;subst C;subst y;refine(I.tuple u).c λj r k m=>?_;have c:j.toArray.size=xs.length:=by rw[sA];exact r.length.symm
 refine ZC _ _ PyProof.Rows.slot_tuple_getitem.lookup k.typeIs ?_;refine HT.getItem_tuple_cut k hs o w (by refine qq c ?_;exact hw) ?_ (by rw[c];exact m);refine qq c ?_;refine ZC (.ref ↑0) _ (I.laid (λb ob q=>hP0 _ q) (à _) ?_) rfl (q _ (I.hok.fresh (à _)));exact⟨ì (GT xs lo hi) m,_,(r.drop _).take _,IsTup.new _ _⟩
def zAK(K:O0):R2:=λx y H Q=> ∃a b xs c,x=.ref a/\y=.ref b/\SqT K H a xs/\SqT K H b c/\xs≠[]/\↑12+c.length<=sizeLine/\
 (c=[]->Q (.ref a) H)/\(c≠[]-> ∀p,H p=none->Q (.ref p) (yV H p (.tup (xs++c))))
def Vals.nil_iff(r:Vals xs us):us=[]↔xs=[]:=by
 cases r with
 |nil=>simp
 |cons _ _=>simp
def Qk:OpR X (binaryOp .Add) (zAK X.K):=by intro pins s σ H x y v u Q I B o h;refine h.p λa b xs J L=>L.t λM N E G A k C D=>?_;subst M;subst N;subst B;subst o;refine(I.tuple E).c λF j p1 _=>?_;refine(I.tuple G).c λm c p2 _=>?_;refine HT.cat_tup p1 p2 (λz=>A (j.nil_iff.mp z)) (λz=>(ZC (.ref a) H I rfl (C (c.nil_iff.mp z)))) (λz=>?_) (by refine qq j.length.symm (qq c.length.symm ?_);exact k);refine ZC (.ref ↑0) _ (I.laid (λb ob q=>hP0 _ q) (à _) ?_) rfl (D (λw=>z (c.nil_iff.mpr w)) _ (I.hok.fresh (à _)));exact⟨by refine qq lA ?_;exact k,_,j.append c,IsTup.new _ _⟩
end
noncomputable def WZ(n:Nat)(i:Int):Option Nat:=if 0<=i then(if i<n then some i.toNat else none)else if -(n:Int)<=i then some (i+n).toNat else none
def qW{α:Type}(xs:List α)(i:Int):Option α:=(WZ ↑12 i).bind λj=>xs[j]?
theorem Ae(h:WZ n i=some j):seqIndex? i n=some j/\j<n/\ - n <=i/\i<n:=by
 unfold WZ at h;by_cases b:0<=i
 .rw[iP b]at h;by_cases a:i<n
  .rw[iP a]at h;exact⟨by rw[seqIndex_of b a,(å h)],by lia,by lia,a⟩
  .rw[iN0 a]at h;cases h
 .rw[iN0 b]at h;by_cases a: -(n:Int)<=i
  .rw[iP a]at h;exact⟨by rw[seqIndex_neg #[0] a,(å h)],by lia,a,by lia⟩
  .rw[iN0 a]at h;cases h
def OW(h:qW xs i=some v): ∃j,seqIndex? i ↑12=some j/\xs[j]? =some v/\j<↑12/\ - ↑12 <=i/\i<xs.length:=by
 unfold qW at h
 cases e:WZ ↑12 i with
 |none=>rw[e]at h;cases h
 |some j=>
  rw[e]at h;refine(Ae e).e λk a c b=>?_;exact⟨j,k,h,a,c,b⟩
def HZ(b:Expr):Prop:= ∀o i,subscripted b false o i=operate [o,i] (getItem o i)
def IxR(X:Cx)(r:R2):Prop:=
 ∀(b a:Expr)(pins:L0)(s:ř)(σ:St)(H:Hp)(x y:V)(v u:Ś)(Q:VK),Inv X pins σ H s->RelV x v->RelV y u->r x y H Q->
  subscripted a false v u=operate [v,u] (getItem v u)->wpAny ↑5 X.A (subscriptTail b a v u) (EP X pins σ Q) X.xe s
def Y1(X:Cx)(id:String)(r:V->List V->Hp->VK->Prop):Prop:=
 ∀(pins:L0)(s:ř)(σ:St)(H:Hp)(x:V)(xs:List V)(v:Ś)(a:A0)(Q:VK),Inv X pins σ H s->RelV x v->Vals xs a->r x xs H Q->
  wpAny ↑5 X.A (call (.builtin id) (v::a)) (EP X pins σ Q) X.xe s
section
variable{a b:Expr}
def IxR.or(h:IxR X r)(h':IxR X r'):IxR X (λx y H Q=>r x y H Q\/r' x y H Q):=by
 intro a b pins s σ H x y v u Q I j c q hs;rcases q with q|q
 .exact h a b pins s σ H x y v u Q I j c q hs
 .exact h' a b pins s σ H x y v u Q I j c q hs
def zAM(K:O0):R2:=λx y H Q=> ∃p xs i v,x=.ref p/\y=.int i/\SqL K H p xs/\qW xs i=some v/\Q v H
def zAN(K:O0):R2:=λx y H Q=> ∃p xs i v,x=.ref p/\y=.int i/\SqT K H p xs/\qW xs i=some v/\Q v H
def zAO:R2:=λx y H Q=> ∃z i c,x=.str z/\y=.int i/\z.length<=sizeLine/\qW z.cps.toList i=some c/\Q (.str ⟨#[c]⟩) H
theorem Ql:IxR X (zAM X.K):=by
 intro k m pins s σ H x y v u Q I J G h hs;refine h.l λp xs i z V W F M q=>?_;subst V;subst W;cases J;obtain⟨t,rfl⟩:=G;refine(I.list F).c λA r o P=>?_;refine(OW M).elim λj U=>U.h λb L T E N=>?_;refine(r.get L).a λw D c=>?_;have O:=r.length;have S:=ES;have a:EP X pins σ Q w s:=(ZC z H I c q)
 by_cases C:0<=i
 .have B:=by rw[seqIndex_of C N]at b;exact å b
  exact item_listR o.isList C #[0] (by rw[B];simpa using D) a hs
 .have B:(i+(A.toArray.size:Int)).toNat=j:=by rw[seqIndex_neg #[0] E]at b;rw[sA, <-O];exact å b
  exact subscriptTail_builtinR o.isList.typeIs slot_list_getitem.lookup
   (wpAny_getItem_list_neg o.isList #[0] (by rw[sA]<;>lia) #[0] (by rw[B];simpa using D) ⟨rfl,a⟩) hs
theorem ix_tup:IxR X (zAN X.K):=by
 intro b c pins s σ H x y v u Q I A o h hs;refine h.l λp xs i z P T m D q=>?_;subst P;subst T;subst A;obtain⟨t,rfl⟩:=o;refine(I.tuple m).c λF r k J=>?_;refine(OW D).elim λj O=>O.h λC B N G M=>?_;refine(r.get B).a λw E a=>?_;have L:=ES
 exact subscriptTail_builtinR k.typeIs slot_tuple_getitem.lookup
  (getItem_tuple k #[0] #[0] (by refine qq sA (qq (((r.length)).symm) ?_);exact C) (by simpa using E) ⟨rfl,((ZC z H I a q))⟩) hs
theorem ix_str:IxR X zAO:=by
 intro a b pins s σ H x y v u Q I w o h hs;refine h.o λz i c L M F B q=>?_;subst L;subst M;obtain⟨t,rfl⟩:=w;obtain⟨E,rfl⟩:=o;refine(OW B).elim λj K=>K.h λk A J m C=>?_;have D:z.cps.toList.length=z.length:=by simp[Str.length]
 rw[D]at k m C;have G:=ES;exact tail_any (typeIs_str s z t) slot_str_getitem.lookup (getItem_str (by rw[(dF0 #[0]),(dF0 #[0]),Bool.or_false]) (by rw[k];simpa using A) (ZC (.str ⟨#[c]⟩) H (I.tok _) ⟨_,rfl⟩ q)) hs
def rIx(K:O0):R2:=λx y H Q=>zAM K x y H Q\/zAN K x y H Q\/zAO x y H Q
def XA(a:A0)(n j)(u):Obj.mapSeq (·.setIfInBounds j u) {cls:=.type "list",data:=.seq a.toArray n}={cls:=.type "list",data:=.seq (a.set j u).toArray n}:=by simp[Obj.mapSeq]
def Inv.lst(I:↑1)(h:H p=some (.lst xs)):
  ∃(j:A0)(n:Nat),Vals xs j/\s.heap.get? p=some {cls:=.type "list",data:=.seq j.toArray n}/\↑12<=sizeLine:=by
 obtain⟨z,j,n,r,e⟩:=I.hok p _ h;exact ZC j n r e z
def Inv.lstUpd{a:A0}(I:↑1)(h:H p=some (.lst xs))
  (ho:s.heap.get? p=some {cls:=.type "list",data:=.seq a.toArray n}) (hf:f {cls:=.type "list",data:=.seq a.toArray n}={cls:=.type "list",data:=.seq its'.toArray n'}) (r:Vals ys its') (hz:ys.length<=sizeLine) (t):
  Inv X pins σ (yV H p (.lst ys)) {s with heap:=s.heap.update p f,toks:=t}:=by
 have e:(s.heap.update p f).get? p=some {cls:=.type "list",data:=.seq its'.toArray n'}:=by rw[ö f ho (by rw[hf]<;>rfl),hf]
 refine I.write (by rw[h];trivial) (.inl rfl) (λb u c q=>(ù _ _ (Ne.symm c)).trans q) ⟨_,e⟩ ?_;exact⟨hz,its',n',r,e⟩
def zAP:V->V->V->Hp->(Hp->Prop)->Prop:=λo i v H Q=> ∃p xs k j,o=.ref p/\i=.int k/\H p=some (.lst xs)/\WZ ↑12 k=some j/\Q (yV H p (.lst (xs.set j v)))
theorem OX(lo hi)(n):(sliceBounds lo hi none n).1=((HT.sIx n 0 lo:Nat))/\(sliceBounds lo hi none n).2.1=((HT.sIx n n hi:Nat))/\(sliceBounds lo hi none n).2.2=1:=by
 refine⟨?_,?_,rfl⟩
 .cases lo with
  |none=>simp[sliceBounds,HT.sIx]
  |some i=>
   simp only[sliceBounds,HT.sIx,Option.getD_none,if_true];by_cases h:i<0
   .simp only[h,if_true]<;>lia
   .simp only[h,iF]<;>lia
 .cases hi with
  |none=>simp[sliceBounds,HT.sIx]
  |some i=>
   simp only[sliceBounds,HT.sIx,Option.getD_none,if_true];by_cases h:i<0
   .simp only[h,if_true]<;>lia
   .simp only[h,iF]<;>lia
theorem MB(a:A0)(lo hi):slicePick a.toArray lo hi none=((a.drop (HT.sIx a.length 0 lo)).take (HT.sIx a.length a.length hi - HT.sIx a.length 0 lo)).toArray:=by refine(OX lo hi a.toArray.size).f λb c j=>?_;unfold slicePick;rw[b,c,j];simp only[sliceRange_one,pick_run]<;>rfl
def rSlL(K:O0):V->Option Int->Option Int->Hp->VK->Prop:=λx lo hi H Q=> ∃a xs,x=.ref a/\SqL K H a xs/\ ∀p,H p=none->Q (.ref p) (yV H p (.lst (Eh xs lo hi)))
theorem Qm:SlR X (rSlL X.K):=by intro pins s σ H x v A B lo hi sl Q I u hs k o h;refine h.b λa xs C m q=>?_;subst C;subst u;refine(I.list m).c λy r j w=>?_;have c:=r.length;refine ZC _ _ slot_list_getitem.lookup j.isList.typeIs ?_;refine wpAny_getItem_list_slice j.isList hs k o .none (by simp) ?_ (by rw[sA]<;>lia);rw[MB, <-c];refine ZC (.ref ↑0) _ (I.laid (λb ob q=>hP0 _ q) (à _) ?_) rfl (q _ (I.hok.fresh (à _)));exact⟨ì (GT xs lo hi) w,_,0,(r.drop _).take _,ã _ rfl⟩
noncomputable def pS:V->Bool
 |.non=>true
 |.bl _=>true
 |.int _=>true
 |.str _=>true
 |_=>false
noncomputable def eqV:V->V->Bool
 |.non,.non=>true
 |.bl a,.bl b=>a==b
 |.bl a,.int b=>(if a then 1 else 0)==b
 |.int a,.bl b=>a==(if b then 1 else 0)
 |.int a,.int b=>a==b
 |.str a,.str b=>a==b
 |_,_=>false
def Zz(k:RelV y u)(c:RelV x v)(o:pS y=true)(m:pS x=true):SeqAt.EqAt A s u v (eqV y x):=by
 cases y with
 |non=>
  cases k
  cases x with
  |non=>subst c;exact SeqAt.EqAt.same _
  |bl b=>subst c;exact SeqAt.EqAt.none_bool b
  |int b=>obtain⟨t,rfl⟩:=c;exact SeqAt.EqAt.none_int b t
  |str b=>obtain⟨t,rfl⟩:=c;exact SeqAt.EqAt.none_str b t
  |_=>exact absurd m xF0
 |bl a=>
  subst k
  cases x with
  |non=>subst c;exact SeqAt.EqAt.bool_none a
  |bl b=>subst c;exact SeqAt.EqAt.bool_bool a b
  |int b=>obtain⟨t,rfl⟩:=c;exact SeqAt.EqAt.bool_int a b t
  |str b=>obtain⟨t,rfl⟩:=c;exact SeqAt.EqAt.bool_str a b t
  |_=>exact absurd m xF0
 |int a=>
  obtain⟨j,rfl⟩:=k
  cases x with
  |non=>subst c;exact SeqAt.EqAt.int_none a j
  |bl b=>subst c;exact SeqAt.EqAt.int_bool a j b
  |int b=>obtain⟨t,rfl⟩:=c;exact SeqAt.EqAt.int_int a j b t
  |str b=>obtain⟨t,rfl⟩:=c;exact SeqAt.EqAt.int_str a j b t
  |_=>exact absurd m xF0
 |str a=>
  obtain⟨j,rfl⟩:=k
  cases x with
  |non=>subst c;exact SeqAt.EqAt.str_none a j
  |bl b=>subst c;exact SeqAt.EqAt.str_bool a j b
  |int b=>obtain⟨t,rfl⟩:=c;exact SeqAt.EqAt.str_int a j b t
  |str b=>obtain⟨t,rfl⟩:=c;exact SeqAt.EqAt.str_str a j b t
  |_=>exact absurd m xF0
 |_=>exact absurd o xF0
theorem OZ:CallR X (.builtin "len") (λxs H Q=> ∃z,xs=[.str z]/\z.length<=sizeLine/\Q (.int z.length) H):=by intro pins s σ H xs a Q I r h;refine h.c λz j c q=>?_;subst j;obtain⟨u,rfl,t,rfl⟩:=vals1 r;have b:=ES;exact len_str #[0] (ZC (.int z.length) H (I.tok _) ⟨_,rfl⟩ q)
def CallR.or(h:CallR X f r)(h':CallR X f r'):CallR X f (λxs H Q=>r xs H Q\/r' xs H Q):=by
 intro pins s σ H xs a Q I b q;rcases q with q|q
 .exact h pins s σ H xs a Q I b q
 .exact h' pins s σ H xs a Q I b q
theorem PB:CallR X (.type "list") (λxs H Q=> ∃p j,xs=[.ref p]/\(SqL X.K H p j\/SqT X.K H p j)/\ ∀l,H l=none->Q (.ref l) (yV H l (.lst j))):=by
 intro pins s σ H xs G Q I r h;refine h.b λp j J m q=>?_;subst J;refine(vals1 r).a λu L F=>?_;subst L;subst F
 have A: ∀(a:A0),Vals j a->(j.length)<=sizeLine-> ∀(h':Heap)(b:Nat),_->
   h'.get? ↑0=some {cls:=.type "list",dict:=none,data:=.seq a.toArray b,slots:=#[]}->EP X pins σ Q _ {s with heap:=h'}:=λa c y h' b v e=>
  (ZC (.ref ↑0) _ (I.laid v (à _) (show ObjOk X.prog X.w _ h' _ (.lst j)from⟨y,a,b,c,e⟩)) rfl (q _ (I.hok.fresh (à _))))
 rcases m with m|m
 .obtain⟨a,c,D,y⟩:=I.list m;have k:=c.length;obtain⟨o,E,C,n,B⟩:=D.isList;exact call_list_seq p (.inl rfl) E C B (λh' b v e=>A a c y h' b v e) (by simp only[sA]<;>lia)
 .obtain⟨a,c,D,y⟩:=I.tuple m;have k:=c.length;obtain⟨o,E,C,n,B⟩:=D;exact call_list_seq p (.inr rfl) E C B (λh' b v e=>A a c y h' b v e) (by simp only[sA]<;>lia)
theorem MC:CallR X (.type "tuple") (λxs H Q=> ∃p j,xs=[.ref p]/\((SqL X.K H p j/\ ∀l,H l=none->Q (.ref l) (yV H l (.tup j)))\/(SqT X.K H p j/\Q (.ref p) H))):=by
 intro pins s σ H xs B Q I r h;obtain⟨p,j,rfl,h⟩:=h;refine(vals1 r).a λu C y=>?_;subst C;subst y;rcases h with⟨hq,q⟩|⟨hq,q⟩
 .refine(I.list hq).c λa k c v=>?_;have m:=k.length;refine call_tuple_list c.isList (λh' w=>?_) (by simp only[sA]<;>lia);have I1:Inv X pins σ H {s with heap:=h'}:=I.kept w
  have A:Inv X pins σ (yV H (h'.objs.size) (.tup j)) {s with heap:=h'.push {cls:=.type "tuple",data:=.seq a.toArray}}:=
   I1.laid (λb o e=>hP0 _ e) (à _) (⟨v,a,k,IsTup.new _ _⟩)
  exact ZC (.ref (h'.objs.size)) _ A rfl (q _ (I1.hok.fresh (à _)))
 .refine(I.tuple hq).c λa k c v=>?_;exact call_tuple_same c (ZC (.ref p) H I rfl q)
def tyV(K:O0)(T:String)(x:V)(H:Hp):Prop:=match x with
 |.str _=>T="str"
 |.int _=>T="int"
 |.ref p=>(T="list"/\ ∃xs,SqL K H p xs)\/(T="tuple"/\ ∃o,K.lookup p=some o/\o.cls=.type "tuple"/\o.dict=none)\/
   (T="dict"/\((∃a,H p=some (.dK a))\/ ∃a,H p=some (.dT a)))\/(T="set"/\ ∃S n,H p=some (.set S n))
 |_=>False
def A1(I:↑1)(r:RelV x v)(ty:tyV X.K T x H):
  s.TypeIs v T/\ ∀a,v=.ref a-> ∃ob,s.heap.get? a=some ob/\ob.dict=none:=by
 cases x with
 |str z=>
  obtain⟨t,rfl⟩:=r;subst ty;exact⟨typeIs_str s z t,λ_ e=>nomatch e⟩
 |int i=>
  obtain⟨t,rfl⟩:=r;subst ty;exact⟨typeIs_int s i t,λ_ e=>nomatch e⟩
 |ref p=>
  subst r;rcases ty with⟨rfl,xs,hq⟩|⟨rfl,o,hk,hc,k⟩|⟨rfl,hk⟩|⟨rfl,S,n,hk⟩
  .refine(I.list hq).c λq _ m _=>?_;refine⟨m.isList.typeIs,λa e=>?_⟩;cases e;refine m.k λo n e c k _=>?_;exact⟨o,e,k⟩
  .refine⟨⟨o,I.kIn p o hk,hc⟩,λa e=>?_⟩;cases e;exact⟨o,I.kIn _ o hk,k⟩
  .have z: ∃o,s.heap.get? p=some o/\o.ExactDict:=by
    rcases hk with⟨kvs,hk⟩|⟨kvs,hk⟩
    .obtain⟨_,_,_,_,o,_,_,e,b,_⟩:=I.hok p _ hk;exact⟨o,e,b⟩
    .obtain⟨_,_,_,_,o,_,_,e,b,_⟩:=I.hok p _ hk;exact⟨o,e,b⟩
   obtain⟨o,e,b⟩:=z;refine⟨⟨o,e,b.1⟩,λa j=>?_⟩;cases j;exact⟨o,e,b.2.1⟩
  .refine(I.hok p _ hk).p λo _ _ _ u=>u.f λe b _=>?_;refine⟨⟨o,e,b.1⟩,λa j=>?_⟩;cases j;exact⟨o,e,b.2.1⟩
 |_=>exact False.elim ty
def tBM(K:O0)(T:String)(r:V->List V->Hp->VK->Prop)(c:TE)(t:TA):TE:=λσ H Q=>c σ H λx a=>tyV K T x a/\t σ a λxs b=>r x xs b Q
variable{apos cpos:Pos}{id:String}
def zAQ(u:PlainAttrs T)(a:Slot T name id)(b:(typeOf (.builtin id)=pure (.type "method_descriptor")))(w:Y1 X id r)(B:PE X o to)(G:PA X (e::es) t)
  (hbase:attributeBase o name X.env (eval o X.env)=eval o X.env:=by rfl)
  (hfew:((backTo cpos (starEach (e::es) X.env)).all (λx=>!x.1)&&(backToKw cpos (keywordEach [] X.env)).all (λx=>x.1.isSome)
   &&decide ↑6)=true:=by rfl)
  (hline:(apos.endLine==cpos.line)=true:=by rfl) (hs:q9 X e es:=by rfl) (hplain:(backTo cpos (starEach es X.env)).any (·.1)=false:=by rfl):
  PE X (.Call (.Attribute o name apos) (e::es) [] cpos) (tBM X.K T r to t):=by
 rw[22];refine wpAny_Call_method_late hbase hfew hline rfl (xV (B pins s σ H _ I h) λv E ⟨x,q,I1,c,ty,M⟩=>?_);obtain⟨J,D⟩:=A1 I1 c ty;refine Zb T id ⟨u,a,b,J,D,?_⟩;have j:=G cpos pins E σ q _ I1 M;rw[hs]at j ⊢;refine Calls.callWith_builtin (by show(false || (backTo cpos _).any (·.1))=false;rw[hplain]<;>rfl) (Calls.evalArgs_plain ?_);exact xV j λC m ⟨k,L,F,y,A⟩=>w pins m σ L x k v C Q F c y A
end
def MtM(X:Cx)(id:String)(r:V->List V->Hp->VK->Prop):Prop:=
 ∀(pins:L0)(s:ř)(σ:St)(H:Hp)(x:V)(xs:List V)(v:Ś)(a:A0)(Q:VK),Inv X pins σ H s->RelV x v->Vals xs a->r x xs H Q->
  wpAny ↑5 X.A (call (.builtin id) (v::a)) (EP X pins σ Q) X.xe s
def Vals.one{x}{j}(h:Vals [x] j): ∃u,j=[u]/\RelV x u:=by cases h with|cons r t=>cases t;exact⟨_,rfl,r⟩
def Vals.reverse(h:Vals xs us):Vals xs.reverse us.reverse:=by
 induction h with
 |nil=>exact .nil
 |cons r t ih=>rw[reverse_cons,reverse_cons];exact Vals.append ih (.cons r .nil)
theorem Vals.rep(h:Vals xs us): ∀k:Nat,Vals (List.replicate k xs).flatten (List.replicate k us).flatten
 |0=>.nil
 |k+1=>by exact Vals.append h (Vals.rep h k)
theorem foldl_rep(its): ∀ k (j:A0),
  List.foldl (λm q=>m++q) j.toArray (List.replicate k its.toArray)=(j++(List.replicate k its).flatten).toArray
 |0,j=>by simp
 |k+1,j=>by
  have e:j.toArray++its.toArray=(j++its).toArray:=by simp
  have a:(j++its)++(List.replicate k its).flatten=j++(List.replicate (k+1) its).flatten:=by rw[ŗ,flatten_cons,aA]
  rw[<-a, <-foldl_rep its k _, <-e,ŗ,ĕ]
section
def Inv.lset{a:A0}(I:↑1)(c:H l=some (.lst xs))
  (e:s.heap.get? l=some {cls:=.type "list",data:=.seq a.toArray n}) (hf:f a.toArray=its'.toArray) (hv:Vals ys its') (hz:ys.length<=sizeLine):
  Inv X pins σ (yV H l (.lst ys)) {s with heap:=s.heap.update l (Obj.mapSeq f),toks:=t'}:=by
 have q:=PySem.IsL.update e f;rw[hf]at q;refine I.write (by rw[c];exact trivial) (.inl rfl) (λk u b j=>(ù s.heap _ (Ne.symm b)).trans j) ⟨_,q⟩ ?_;exact⟨hz,its',_,hv,q⟩
def Inv.lnew(I:↑1)(a:Vals ys its)(hz:ys.length<=sizeLine):
  Inv X pins σ (yV H ↑0 (.lst ys)) {s with heap:=s.heap.push {cls:=.type "list",data:=.seq its.toArray},toks:=t'}:=
 I.laid (λ_ _ q=>hP0 _ q) (à _) ⟨hz,its,0,a,ã _ rfl⟩
def Inv.fresh(I:↑1):H ↑0=none:=I.hok.fresh (à _)
def Inv.lstM(I:↑1)(a:H l=some (.lst xs)):↑12<=sizeLine/\ ∃(j:A0)(n:Nat),Vals xs j/\↑12=(j.length)/\s.heap.get? l=some {cls:=.type "list",data:=.seq j.toArray n}:=by obtain⟨z,j,n,r,e⟩:=I.hok l _ a;exact⟨z,j,n,r,r.length,e⟩
theorem TH(h:n<=sizeLine):Builtin.List.listTooLong n=false:=by exact dF0 #[0]
end
section
def Af:V->List V->Hp->VK->Prop:=λx a H Q=> ∃l xs y,x=.ref l/\a=[y]/\H l=some (.lst xs)/\↑12<sizeLine/\Q .non (yV H l (.lst (xs++[y])))
def Ag:V->List V->Hp->VK->Prop:=λx a H Q=> ∃l b xs zs,x=.ref l/\a=[.ref b]/\H l=some (.lst xs)/\H b=some (.lst zs)/\↑12+zs.length<=sizeLine/\Q .non (yV H l (.lst (xs++zs)))
def rCat:R2:=λx y H Q=> ∃l b xs zs,x=.ref l/\y=.ref b/\H l=some (.lst xs)/\H b=some (.lst zs)/\↑12+zs.length<=sizeLine/\ ∀p,H p=none->Q (.ref p) (yV H p (.lst (xs++zs)))
theorem A2:OpR X (binaryOp .Add) rCat:=by
 intro pins s σ H x y v u Q I m j h;refine h.q λl b xs zs J K o B D q=>?_;subst J;subst K;subst m;subst j;obtain⟨z,c,n,r,G,e⟩:=I.lstM o;obtain⟨F,a,E,k,C,A⟩:=I.lstM B;refine PySem.P.add_list e A ?_ (by refine qq sA (qq sA ?_);lia);have w:c.toArray++a.toArray=(c++a).toArray:=by simp
 refine qq w ?_;exact ZC (.ref _) _ (I.lnew (r.append k) (by refine qq lA ?_;omega)) rfl (q _ I.fresh)
def rRep:R2:=λx y H Q=> ∃l k xs,x=.ref l/\y=.int k/\H l=some (.lst xs)/\ -(2 ^ 63)<=k/\k<2 ^ 63/\↑12 * k.toNat<=sizeLine/\
 ∀p,H p=none->Q (.ref p) (yV H p (.lst (List.replicate k.toNat xs).flatten))
def len_rep{α:Type}(xs:List α)(k):(List.replicate k xs).flatten.length=k * xs.length:=by
 induction k with
 |zero=>simp
 |succ k ih=>rw[ŗ,flatten_cons,lA,ih,Nat.succ_mul,Nat.add_comm]
theorem A3:OpR X (binaryOp .Mult) rRep:=by
 intro pins s σ H x y v u Q I G E h;refine h.i λl k xs O=>O.u λP T L K J D q=>?_;subst P;subst T;cases G;obtain⟨t,rfl⟩:=E;obtain⟨z,b,n,r,M,e⟩:=I.lstM L;have j:b.toArray.size * k.toNat<=sizeLine:=by rw[sA, <-M];exact D
 have A: ¬b.toArray.size * k.toNat>(2 ^ 63 - 1) / 8:=by
  have:(sizeLine:Nat)<=(2 ^ 63 - 1) / 8:=by decide
  lia
 have w: ¬(!Builtin.List.listFitsIndex k)=true:=by rw[fitsIndex_both K J];exact xF0
 have c: ¬Builtin.List.listTooLong (b.toArray.size * k.toNat)=true:=by rw[TH j];exact xF0
 have o:List.foldl (λB C=>B++C) #[] (List.replicate (if b.toArray.isEmpty=true then 0 else k.toNat) b.toArray)=(List.replicate k.toNat b).flatten.toArray:=by
  have f0: ∀m:Nat,List.foldl (λB C=>B++C) #[] _=(List.replicate m b).flatten.toArray:=λm=>by have:=foldl_rep b m [];exact this
  rw[f0]
  cases b with
  |nil=>simp
  |cons a r'=>rw[iN0 (by simp)]
 refine wpAny_binaryOp_repeat_ref ↑4 ⟨_,e,rfl⟩ (λN=>typeIs_int N k t) noFill_list_mul F.fills_int_mul F.slot_int_rmul repeat_list F.slot_int_index.lookup
  (call_meets F.slot_int_rmul (typeIs_int s k t) F.entry_int_rmul (F.args_int_rmul_2 _ _) (int___rmul___int_list k t l b.toArray n)
   ⟨e,rfl,⟨_,e,rfl⟩,call_meets F.slot_list_mul ⟨_,e,rfl⟩ F.entry_list_mul (F.args_list_mul_2 _ _) (AutoListH.list___mul___list_int_3 l b.toArray n k t w A c) ⟨e,?_⟩⟩)
 rw[o];exact ZC (.ref _) _ (I.lnew (r.rep k.toNat) (by rw[len_rep,Nat.mul_comm];exact D)) rfl (q _ I.fresh)
end
end L2
namespace Att
open PySem PySem.W PySem.Calls PyProof.Rows
def HP: ∀ ns  vs ,WellAll P h vs (ns.map WData.int)->IntsAre vs ns:=by
 intro ns
 induction ns with
 |nil=>
  intro vs w;cases w;exact .nil
 |cons n ns ih=>
  intro vs w
  cases w with
  |cons a b=>
   cases a;exact .cons _ _ (ih _ b)
theorem Ek{l:OpenLaw}(o:l.most=some n)
  (hpre:l.row.toRowW.claim.pre args=true) (hwl:WellAll P h vals args):
  ∃a vs ns,vals=[Value.ref a]/\args=[WData.list (ns.map WData.int)]/\h.get? a=some {cls:=.type "list",data:=.seq (vs.toArray)}/\IntsAre vs ns/\ns.length<=n:=by
 have k:=(pre_splitW hpre).1;have m:l.pre.holds [] {args:=args}=true:=(pre_splitW hpre).2;refine(hasAllW_cons k).b λd r y u s=>?_;subst y;obtain rfl:=hasAllW_nil s;refine(hasW_list u).a λxs A v=>?_;subst A;obtain⟨ns,rfl⟩:=items_int v
 have b:ns.length<=n:=by
  have c:=by have c:=(holds_andW m).1;rw[o]at c;exact c
  have j:=condW_of c (w_not (w_lt w_lit (w_len_list (w_arg rfl))));refine Nat.le_of_not_lt λq=>?_;have w:=by omega
  first
   |(rw[dT0 w]at j;exact absurd j (by decide))
   |(simp at j;lia)
 cases hwl with
 |cons w1 w2=>
  cases w2
  cases w1 with
  |list ho hall=>exact Zv _ _ ns ⟨rfl,rfl,ho,HP ns _ hall,b⟩
def attach_call{l:OpenLaw}
  (hn:l.most=some n) (hdf:d.params.defaults=[])
  (call: ∀ w  k j  mg I  u  o  J B m  a  vs  ns ,
   Ground q loose [] XP w k mg I j.heap->YP w j.heap->
   j.heap.get? u=some o->o.data=.func (docDef d.name d.params d.body d.scope J B m)->j.heap.CodeRec B d.name->mg d.name=some (.ref u)->
   j.heap.get? a=some {cls:=.type "list",data:=.seq (vs.toArray)}->IntsAre vs ns->ns.length<=n->j.gens=#[]->
   codeAny (model l.prog w) callerA (.call (.ref u) ⟨[.ref a],[]⟩) (λr y=>r=.ok (.ret (.bool true))/\OldK j.heap y.heap/\y.os=j.os/\AllBare y.gens) j):
  WalkO q loose XP YP l.row.toRowW d [] (λf vs=>PySem.call f vs):=by
 intro w k j mg I G Y u o J B m W kV X O C K D T F E as s H L A Q;obtain rfl:W=.none:=Dflts.none K hdf;obtain rfl:kV=.none:=Dflts.noKw K;refine(Ek hn s A).o λa vs ns V Z v b c=>?_;subst V;subst Z;refine enter_call (İ (call w k j mg I u o J B m a vs ns G Y X (fd_plain O) C D v b c T) λr y N=>?_);refine N.e λac P U M=>?_;subst ac;exact⟨.inl (Zv _ _ ([]) ⟨rfl,(λ_=>rfl),.bool true,postW_of
    (by first |rfl|decide|simp[WShape.has,WShape.arms,WShape.armsAll])
    (w_eq_bool (w_res rfl) w_lit) rfl,(λ_=>⟨List.Pairwise.nil,λ_ S=>(nomatch S)⟩)⟩),P,U,M⟩
end Att
namespace L2
open PySem PySem.Spec PyProof.Rows
def Em: ∀{vs}{ns},IntsAre vs ns->Vals (ns.map V.int) vs:=λa=>by
 induction a with
 |nil=>exact .nil
 |cons n t h ih=>exact .cons ⟨t,rfl⟩ (ih)
def Qn(H:Hp):Prop:= ∀b,H b=none\/(∃o xs,H b=some (.frz o (.lst xs)))\/ ∃ps,H b=some (.tbl ps)
theorem Jn{K:O0}
  (KX:K.In s₁.heap) (hns:s₁.heap.Ns mainGlobals mg) (B:s₁.heap.Ns builtinsNs mb) (hbb: ∀x:Str,x≠"__name__"->mb x=bootBuiltins x) (hlim:s₁.heap.NoLimit) (hg:s₁.gens=#[])
  (ha:s₁.heap.get? a=some {cls:=.type "list",data:=.seq (vs.toArray)}) (hi:IntsAre vs ns) (hl:ns.length<=sizeLine) (hr:Room k callerA)
  (F: ∀base:Heap,K.In base->base.Ns mainGlobals mg->FnOk P w K mg base CX k fa fd [x] sp) (hbind: ∀ s  u ,BindsTo s fd ⟨[u],[]⟩ [(x,u)])
  (hsp: ∀H:Hp,Qn H->SqL K H a (ns.map V.int)->sp [.ref a] H (λv _=>v=.bl true) λ_ _ _=>False)
  (hCX: ∀H e G,CX [] H s₁ (λ_ _ _=>False) e G->False) (hT: ∀b ps,tabAt P K b=some ps->K.lookup b=none/\s₁.heap.get? b=some {cls:=.none,data:=.fields #[]}/\isCodeTable s₁.heap b)
  (hcd: ∀e∈BM P, ∀c b,PySem.W.tabIn K e.1=some (c,b)->PySem.W.CodeHd s₁.heap c b) (hbm: ∃N ob,mg "__builtins__"=some (.ref N)/\N≠builtinsNs/\s₁.heap.get? N=some ob/\ob.cls=.type "module"/\ob.dict=some builtinsNs/\ob.data=.plain):
  codeAny (model P w) callerA (.call (.ref fa) ⟨[.ref a],[]⟩) (λr G=>r=.ok (.ret (.bool true))/\OldK s₁.heap G.heap/\G.os=s₁.os/\AllBare G.gens) s₁:=by
 have rv:=Em hi
 have C: ∀H:Hp,(∀b,H b=none\/(∃o xs,H b=some (.frz o (.lst xs)))\/ ∃ps,tabAt P K b=some ps/\H b=some (.tbl ps))->SqL K H a (ns.map V.int)->HOk P w H s₁.heap->(∀b,H b≠none->b=a\/ ∃ps,tabAt P K b=some ps)->(H a≠none->K.lookup a=none)->(∀b ps,tabAt P K b=some ps->H b=some (.tbl ps))->
   codeAny (model P w) callerA (.call (.ref fa) ⟨[.ref a],[]⟩) (λr G=>r=.ok (.ret (.bool true))/\OldK s₁.heap G.heap/\G.os=s₁.os/\AllBare G.gens) s₁:=by
  intro H hO hS M hA hK X;have j: ∀{b:Addr}{o:Obj},s₁.heap.get? b=some o->H b=none->(Dw s₁.heap H).get? b=some o:=λe n=>(PySem.W.hideAll_get _ e λhm=>by have q:=(æ.mp hm).2;rw[n]at q;simp at q)
  have O: ∀{b:Addr}{o:Obj}{n:String},s₁.heap.get? b=some o->o.cls=.type n->n≠"list"->H b=none:=λ{b o n} e d ne=>by
   cases q:H b with
   |none=>rfl
   |some u=>
    rcases hA b (by rw[q];simp)with rfl|⟨ps,z⟩
    .rw[ha]at e;cases e;cases d;exact absurd rfl ne
    .rw[(hT b ps z).2.1]at e;cases e;cases d
  have Y: ∀{b:Addr}{o:Obj}{es:Array DictEntry}{U:Nat},s₁.heap.get? b=some o->o.data=.dict es U->H b=none:=λ{b o es U} e d=>by
   cases q:H b with
   |none=>rfl
   |some u=>
    rcases hA b (by rw[q];simp)with rfl|⟨ps,z⟩
    .rw[ha]at e;cases e;cases d
    .rw[(hT b ps z).2.1]at e;cases e;cases d
  have A: ∀{b:Addr}{m:G0},s₁.heap.Ns b m->(Dw s₁.heap H).Ns b m:=λ{b m} ⟨o,es,U,e,d,r⟩=>(Zv o es U ⟨j e (Y e d),d,r⟩)
  have Q:=λb o e=>j (KX b o e) (by
   cases q:H b with
   |none=>rfl
   |some u=>
    rcases hA b (by rw[q];simp)with rfl|⟨ps,z⟩
    .rw[hK (by refine qq q ?_;simp)]at e;cases e
    .rw[(hT b ps z).1]at e;cases e)
  refine İ ((F _ Q (A hns)).run callerA [] s₁ H ⟨_,[]⟩ [.ref a] [.ref a] _ _ hr (⟨rfl,(⟨Q,A hns,(Z0 mb (A B) hbb),let ⟨mc,h1,h2⟩:=hlim;(Z0 mc (A h1) h2),let ⟨N,ob,h1,h2,h3,h4,r⟩:=hbm;(YZ N ob h1 h2 (j h3 (O h3 h4 ↑4)) h4 r)⟩),λb o e=>Pr e,⟨le_of_eq ((PySem.W.hideAll_size _ _)),X,λe he c b ht=>Exists.v (hcd e he c b ht) λo vs S tf fl tg MK L tt z0=>YJ o vs S tf fl tg MK L tt ⟨j z0.1 (O z0.1 z0.2.1 ↑4),z0.2⟩⟩,trivial,λb B=>absurd (show b∈([]:B9)from B) (by simp),M,.of_eq hg⟩) (hbind s₁ _) (.cons rfl .nil) (hsp H (λb=>(hO b).imp id (Or.imp id λ⟨ps,_,z⟩=>⟨ps,z⟩)) hS)) λr G h=>?_
  cases r with
  |error e=>exact(hCX H e G h).elim
  |ok fl=>
   cases fl with
   |next=>exact False.elim h
   |brk=>exact False.elim h
   |cont=>exact False.elim h
   |ret u=>
    refine h.j λv H' a0=>a0.g λos J un E r' q=>?_;subst q;obtain rfl:u=Value.bool true:=r';refine⟨rfl,⟨λb o e=>?_,λb o e=>un.there b o e (by simp)⟩,os,J⟩;rcases hO b with z|⟨ob,xs,z⟩|⟨ps,T,z⟩
    .exact .inl (un.keep b o e z (by intro z;exact absurd (show b∈([]:B9)from z) (by simp)) (by simp))
    .have z2:=un.frzs b ob _ z;obtain⟨D,_⟩:=M b _ z;obtain⟨I,_⟩:=E b _ z2;rw[e]at D;cases D;exact .inl I
    .refine(hT b ps T).f λ_ D ct=>?_;refine(E b _ (un.tbls b ps z)).a λus I _=>?_;rw[e]at D;cases D;exact .inr (.inl ⟨ct,rfl,#[],us,rfl,by rw[I];simp⟩)
 have tb: ∀{H:Hp}{b:Addr}{ps:B0},tabAt P K b=some ps->ObjOk P w H s₁.heap b (.tbl ps):=λz=>⟨#[],(hT _ _ z).2.1,.inl rfl⟩
 have na: ∀ps,tabAt P K a=some ps->False:=λps z=>by have:=(hT a ps z).2.1;rw[ha]at this;cases this
 cases hk:K.lookup a with
 |some o=>
  have e:=KX a o hk;rw[ha]at e;cases e;refine C (λb=>(tabAt P K b).map .tbl) (λb=>?_) (.inr (Zv _ _ _ ⟨hk,rfl,rfl,rfl,(by refine qq sA (qq ((hi.length)) ?_);exact hl),(by simpa using rv)⟩)) (λb u z=>?_) (λb z=>?_) (λz=>?_) λb ps z=>by rw[z];rfl
  .cases z:tabAt P K b with
   |none=>exact .inl rfl
   |some ps=>exact .inr (.inr ⟨ps,rfl,rfl⟩)
  .refine(Ė.mp z).a λps T ac=>?_;subst ac;exact tb T
  .cases q:tabAt P K b with
   |none=>exact absurd (by rw[q];rfl) z
   |some ps=>exact .inr ⟨ps,rfl⟩
  .cases q:tabAt P K a with
   |none=>exact absurd (by rw[q];rfl) z
   |some ps=>exact(na ps q).elim
 |none=>
  refine C (λb=>if b=a then some _ else(tabAt P K b).map .tbl) (λb=>?_) (.inl (.inr ⟨{cls:=.type "list",data:=.seq (vs.toArray)},iP rfl⟩)) (λb u z=>?_) (λb z=>?_) (λ_=>hk) λb ps z=>?_
  .by_cases B:b=a
   .exact .inr (.inl ⟨_,_,iP B⟩)
   .skip
    refine qq (iN0 B) ?_
    cases z:tabAt P K b with
    |none=>exact .inl rfl
    |some ps=>exact .inr (.inr ⟨ps,rfl,rfl⟩)
  .by_cases B:b=a
   .have Z:=(iP B).symm.trans z;cases Z;cases B;exact⟨ha,by rw[lM0];exact hl,vs,_,rv,ha⟩
   .have Z:=(iN0 B).symm.trans z;refine(Ė.mp Z).a λps T al=>?_;subst al;exact tb T
  .by_cases B:b=a
   .exact .inl B
   .rw[iN0 B]at z
    cases q:tabAt P K b with
    |none=>exact absurd (by rw[q];rfl) z
    |some ps=>exact .inr ⟨ps,rfl⟩
  .rw[iN0 λy=>na ps (by rw[<-y];exact z),z];rfl
def walk_of{l:PySem.W.OpenLaw}{K:Params->PySem.W.Frag}{CX:World->Ef}{sp:World->Sp}
  (hn:l.most=some n) (hn2:n<=sizeLine) (hdf:d.params.defaults=[]) (hr:Room k callerA)
  (hY: ∀ w  h ,YP w h->(K w.params).In h)
  (F: ∀ w  mg  I  h ,(K w.params).In h->h.Ns mainGlobals mg->mg d.name=some (.ref I)->
   ∃Q:FuncData,(∀ s  u ,BindsTo s Q ⟨[u],[]⟩ [(x,u)])/\
    ∀base:Heap,(K w.params).In base->base.Ns mainGlobals mg->FnOk l.prog w (K w.params) mg base (CX w) k I Q [x] (sp w))
  (hsp: ∀ w  H  a (ns:Za),ns.length<=n->Qn H->SqL (K w.params) H a (ns.map V.int)->sp w [.ref a] H (λv _=>v=.bl true) λ_ _ _=>False)
  (hCX: ∀ w  H  s  e  N ,CX w [] H s (λ_ _ _=>False) e N->False)
  (hN:(BM l.prog).all (λe=>((recsOf q).find? λd=>d.name==e.1).isSome)=true) (hno:BM l.prog=[]\/ ∀w:World,PySem.W.noTabs (K w.params)=true):
  PySem.W.WalkO q loose XP YP l.row.toRowW d [] (λf vs=>PySem.call f vs):=by
 refine Att.attach_call hn hdf λw S C mg mb I o pm cd X a vs ns G Y ho hd aa M D y j hg=>?_;have KX:=hY w _ Y;refine(F w mg I _ KX G.T.g M).a λQ O U=>?_;refine Jn KX G.T.g G.T.b G.T.builtins G.T.nolimit hg D y (ì j hn2) hr U O (λH hO hS=>hsp w H a ns j hO hS) (λH e N=>hCX w H C e N) (λb ps O=>?_) (λe E c b L=>?_) G.T.bmain
 rotate_left
 .obtain⟨r,A⟩:=ü.mp (ă.mp hN e E);exact(PySem.W.tab_of G.T KX A L).1
 refine(Ė.mp O).a λe E ac=>?_;subst ac;have m:=List.mem_of_find?_eq_some E;obtain⟨r,A⟩:=ü.mp (ă.mp hN e m);have J:=Ħ.mp (find?_some (p:=λe:Str×Array Ś=>(PySem.W.tabIn (K w.params) e.1).map (·.2)==some b) E);refine(Ė.mp J).a λal L Z=>?_;obtain ⟨c,P⟩:=al;obtain rfl:P=b:=Z;obtain⟨hc,B⟩:=PySem.W.tab_of G.T KX A L;refine⟨?_,B,(hc.tab B).isCodeTable⟩
 cases q:(K w.params).lookup P with
 |none=>rfl
 |some o=>
  have z:=KX _ _ q;rw[B]at z;cases z;rcases hno with z|z
  .rw[z]at m;cases m
  .exact absurd (show false=true from ă.mp (z w) _ (PySem.W.mem_of_lookupK q)) xF0
noncomputable def inClass(s:Stmt)(j:Nat):Stmt:=match s with
 |.ClassDef _ _ _ body _ _ _ _ _ _ _=>body.getD j (.Pass ⟨0,0,0,0⟩)
 |_=>.Pass ⟨0,0,0,0⟩
noncomputable def aZ(s:Stmt):Arguments:=match s with
 |.FunctionDef _ a _ _ _ _ _ _ _ _=>a
 |_=>{posonlyargs:=[],args:=[],vararg:=none,kwonlyargs:=[],kw_defaults:=[],kwarg:=none,defaults:=[]}
noncomputable def xW(s:Stmt):List Stmt:=match s with
 |.FunctionDef _ _ b _ _ _ _ _ _ _=>b
 |_=>[]
noncomputable def zI(s:Stmt):Scope:=match s with
 |.FunctionDef _ _ _ _ _ _ sc _ _ _=>sc
 |_=>{kind:=.function,names:=[],isGenerator:=false,isCoroutine:=false}
abbrev tH:Ef:=λ_ _ _ _ _ _=>False
abbrev E0:XK:=λ_ _ _=>False
def Jo:EU tH X E0:=λ_ _ _ _ _ _ _ h=>h.elim
structure Fun(K:O0)(x qual:Str)(st:Stmt)(f:Addr)(fd:FuncData):Prop where
 ex: ∃(oc:Ś)(od:Option Addr)(kV doc pm:Ś)(an:Option Addr)(cdv ct:Ś)(osl:Array (Option Ś)),
  fd=PySem.W.fnOf x qual (aZ st) (xW st) (zI st) .none kV doc pm an cdv ct/\K.lookup f=some ⟨oc,od,.func fd,osl⟩/\PySem.W.codeIn K cdv qual=true
 kp:PySem.W.keepIn K (.ref f)=true
section
variable{K:O0}
def Fun.ok{st:Stmt}(F:Fun K x qual st f fd)(S:FnScope N ps (zI st))(len: ∀vs H Q E,sp vs H Q E->(vs.length)=ps.length)
  (hbody: ∀ j  A  outer  s  H  vs  Q  E ,Room k (A.deeper (envOfC qual (zI st) ↑0 f j))->sp vs H Q E->
   ∃t,PSs (IU tH P w K mg base N qual (zI st) f j A outer s H E).nox (xW st) t/\t {nx:=λ_ H'=>Q .non H',rt:=Q} (start N vs) H):FnOk P w K mg base tH (k+1) f fd ps sp:=by
 refine F.ex.v λB C kV c v y j D u G=>G.f λI m b=>?_;subst I;refine Xj m b S len λA outer s H vs Q E o a=>?_;refine(hbody j A outer s H vs Q E o a).a λt h q=>?_;exact Z0 t h.nox q
def Fun.binds{st:Stmt}(F:Fun K x qual st f fd)
  (h: ∀ kV j u  m  k ct  q ,q.length=ps.length->bindArgs (PySem.W.fnOf x qual (aZ st) (xW st) (zI st) .none kV j u m k ct) ⟨q,[]⟩=pure (ps.zip q)):Binds K fd ps []:=by
 refine F.ex.v λc o kV j u m k ct a v=>v.f λy s b=>?_;subst y;exact .all (h kV j u m k ct)
def fun_mk{st:Stmt}{kV:Ś}(l:K.lookup f=some ⟨oc,od,.func (PySem.W.fnOf x qual (aZ st) (xW st) (zI st) .none kV doc pm an cdv ct),osl⟩)
  (c:PySem.W.codeIn K cdv qual=true) (k:PySem.W.keepIn K (.ref f)=true):Fun K x qual st f (PySem.W.fnOf x qual (aZ st) (xW st) (zI st) .none kV doc pm an cdv ct):=⟨(YJ oc od kV doc pm an cdv ct osl ⟨rfl,l,c⟩),k⟩
end
section
variable{X:Cx}
def pv(i){pos:Pos}(j:X.N[i]? =some x:=by rfl)(q:zCY (X.env.scope) x:=by first |exact Or.inl rfl|exact Or.inr (Or.inl rfl)|exact Or.inr (Or.inr rfl))(b:(x==("__debug__"))=false:=by decide)
  (hcd:(x==("__classdict__"))=false:=by decide):PE X (.Name x pos) (Y7 i):=(by
    rw[22];refine h.a λv e h=>?_;refine I.loc.a λm k o=>?_;refine(o i x v j e q).a λu r l=>?_;have a:EP X pins σ Q u s:=(ZC v H I r h)
    rcases l with⟨hk,hm⟩|⟨hk,c,hc,hcell⟩
    .exact wpAny_Name (wpAny_loadName_local I.ok.kind hk k hm a) b
    .rcases hk with hk|hk
     .exact wpAny_Name (wpAny_loadName_cell I.ok.kind hk hc hcell a) b
     .exact wpAny_Name (wpAny_loadName_free I.ok.kind hk hc hcell a hcd) b)
end
def Same(H H':Hp):Prop:= ∀b o,H b=some o->H' b=some o
def Same.refl(H):Same H H:=λ_ _ h=>h
end L2
set_option maxHeartbeats 4000000
namespace L2
open PySem PySem.Spec PyProof.Rows
noncomputable def tN(env:Env)(l:List (Str×NameKind))(a:List (Str×Addr)):List (Str×Addr):=
 l.foldl (λc y=>if y.2==.free then(y.1,(env.cells.lookup y.1).getD 0)::c else c) a
def PC{α:Type}{l:List α}{f:α->β->Sem (ForInStep β)}{g:β->α->β}: ∀ c ,(∀x∈l, ∀c,f x c=pure (.yield (g c x)))->
  forIn l c f=pure (l.foldl g c):=by
 induction l with
 |nil=>intro c _;rfl
 |cons x l ih=>
  intro c h;rw[forIn_cons,h x mF0];exact ih _ λy a=>h y (mO _ a)
def MD(h: ∀y∈scope.names,y.2=.free-> ∃c,env.cells.lookup y.1=some c):closureFor scope env=pure (tN env scope.names []):=by
 unfold closureFor tN;dsimp only;rw[PC [] ?_]
 .rfl
 .intro y m c;obtain⟨n,k⟩:=y;by_cases b:k=.free
  .subst b;obtain⟨a,j⟩:=h _ m rfl;simp[cellOf,j]
  .have e:=by simpa using b
   simp[e]
theorem GU: ∀ l  j ,(∀y∈l,y.2=.free-> ∃c,env.cells.lookup y.1=some c)->(∀p∈j,env.cells.lookup p.1=some p.2)->
  ∀p∈tN env l j,env.cells.lookup p.1=some p.2
 |[],_,_,h=>h
 |(n,k)::l,j,hl,h=>by
  refine GU l _ (λy u=>hl y (mO _ u)) λp m=>?_;by_cases q:k=.free
  .subst q;obtain⟨c,v⟩:=hl _ mF0 rfl;have a:p∈_::j:=m;rcases mC.mp a with rfl|m
   .show env.cells.lookup n=some _;rw[v];rfl
   .exact h p m
  .have a:p∈(if _=true then _::j else j):=m;rw[iN0 (by simpa using q)]at a;exact h p a
theorem NF: ∀ l  j  p ,p∈tN env l j->p∈j\/(p.1,NameKind.free)∈l
 |[],_,_,h=>.inl h
 |(n,k)::l,j,p,h=>by
  rcases NF l _ p h with z|z
  .dsimp only at z;split at z
   .rename_i m;rcases mC.mp z with rfl|z
    .exact .inr (by rw[<-show k=NameKind.free by simpa using m];exact mF0)
    .exact .inl z
   .exact .inl z
  .exact .inr (mO _ z)
theorem IW: ∀ l  j  p ,p∈j->p∈tN env l j
 |[],_,_,h=>h
 |_::l,j,p,h=>by
  refine IW l _ p ?_;show p∈(if _=true then _::j else j);split
  .exact mO _ h
  .exact h
theorem tO: ∀ l  j  n ,(n,NameKind.free)∈l-> ∃c,(n,c)∈tN env l j
 |[],_,_,h=>nomatch h
 |(m,k)::l,j,n,h=>by
  rcases mC.mp h with e|h
  .have q:=congrArg Prod.fst e;have a:=congrArg Prod.snd e;subst q a;exact⟨_,IW l _ _ mF0⟩
  .exact tO l _ n h
theorem kZ{β:Type}: ∀{l:List (Str×β)}{n},(∃c,(n,c)∈l)-> ∃c,l.lookup n=some c
 |[],_,h=>let ⟨_,z⟩:=h;nomatch z
 |(m,b)::l,n,h=>by
  by_cases e:n=m
  .subst e;exact⟨b,by simp[ĥ]⟩
  .obtain⟨c,k⟩:=h;rcases mC.mp k with z|z
   .cases z;exact absurd rfl e
   .obtain⟨a,h'⟩:=kZ ⟨c,z⟩;refine⟨a,?_⟩;have j:(n==m)=false:=by simpa using e
    simp[ĥ,j,h']
noncomputable def Qo(a b:Scope):List (Str×NameKind):=a.names.map λ(n,k)=>if(k==.free&&b.kind==.function&&b.names.lookup n==some .cell)then(n,.cell)else(n,k)
noncomputable def tP(a:Scope)(N:D0)(b:Scope)(c:Db):Bool:=
 decide (b.kind=.function)&&b.names.all (λy=>decide (b.names.lookup y.1=some y.2))&&
 b.names.all (λy=>decide (y.2≠.free) || decide (a.names.lookup y.1=some .cell) || decide (a.names.lookup y.1=some .free))&&
 c.all (λi=>match N[i]? with
  |some y=>(decide (a.names.lookup y=some .cell) || decide (a.names.lookup y=some .free))&&decide (b.names.lookup y=some .free)
  |none=>false)
def rlS(b a:Scope):Scope:={b with names:=Qo b a}
abbrev Ii(env:Env)(a:Scope)(C:Addr):List (Str×Addr):=cellsFrom (C+1) a.names (tN env a.names [])
theorem xQ: ∀ l  n  j ,cellsFrom n l j=cellsFrom n l []++j
 |[],n,j=>rfl
 |_::l,n,j=>by
  unfold cellsFrom;split
  .rw[xQ l _ _,xQ l _ [_],aA];rfl
  .exact xQ l n j
theorem CT: ∀ l  n {x}{c},(x,c)∈cellsFrom n l []->(x,NameKind.cell)∈l/\n<=c
 |[],n,x,c,h=>nomatch h
 |(y,k)::l,n,x,c,h=>by
  unfold cellsFrom at h;split at h
  .rename_i q;rw[xQ]at h;rcases ç.mp h with h|h
   .obtain⟨j,m⟩:=CT l _ h;exact⟨mO _ j,by lia⟩
   .have e:=mS.mp h;cases e;have a:=by simpa using q
    subst a;exact⟨mF0,à _⟩
  .obtain⟨j,m⟩:=CT l n h;exact⟨mO _ j,m⟩
def BP(h:(x,c)∈cellsFrom (C+1) l [])(a:n<=C):n<c:=Ř a (CT l _ h).2
theorem vL: ∀ l  n {x},(x,NameKind.cell)∈l-> ∃c,(x,c)∈cellsFrom n l []
 |[],n,x,h=>nomatch h
 |(y,k)::l,n,x,h=>by
  unfold cellsFrom;rcases mC.mp h with e|h
  .cases e;rw[xQ];exact⟨n,þ _ mF0⟩
  .split
   .obtain⟨c,j⟩:=vL l _ h;rw[xQ];exact⟨c,Ġ _ j⟩
   .exact vL l n h
theorem own_apart: ∀ l  n ,(cellsFrom n l []).Pairwise λx y=>x.2≠y.2
 |[],n=>List.Pairwise.nil
 |_::l,n=>by
  unfold cellsFrom;split
  .rw[xQ];refine pairwise_append.mpr ⟨own_apart l _,pairwise_singleton _ _,λa j b k e=>?_⟩;rw[mS.mp k]at e;have:=(CT l _ j).2;exact Ĕ this e
  .exact own_apart l n
theorem qY{β:Type}(x): ∀(l m:List (Str×β)),(l++m).lookup x=(l.lookup x).or (m.lookup x)
 |[],m=>rfl
 |(y,b)::l,m=>by
  rw[List.cons_append,ĥ,ĥ]
  cases x==y with
  |true=>rfl
  |false=>exact qY x l m
theorem NG{β:Type}: ∀{l:List (Str×β)},(∀c,(x,c)∉l)->l.lookup x=none
 |[],_=>rfl
 |(y,b)::l,h=>by
  rw[ĥ]
  cases e:x==y with
  |true=>rw[Ħ.mp e]at h;exact absurd mF0 (h b)
  |false=>exact NG λc j=>h c (mO _ j)
def eU(e:(Ii env sc C).lookup x=some c):(x,c)∈cellsFrom (C+1) sc.names []\/(tN env sc.names []).lookup x=some c:=by
 unfold Ii at e;rw[xQ,qY]at e
 cases z:(cellsFrom _ sc.names []).lookup x with
 |some c'=>rw[z]at e;cases e;exact .inl (PySem.mem_of_lookup z)
 |none=>rw[z]at e;exact .inr e
def A4(h:(x,NameKind.cell)∈sc.names)(e:(Ii env sc C).lookup x=some c):(x,c)∈cellsFrom (C+1) sc.names []:=by unfold Ii at e;rw[xQ,qY]at e;obtain⟨a,h'⟩:=kZ (vL sc.names _ h);rw[h']at e;cases e;exact PySem.mem_of_lookup h'
theorem Qp(h:(x,NameKind.cell)∉sc.names):(Ii env sc C).lookup x=(tN env sc.names []).lookup x:=by unfold Ii;rw[xQ,qY,NG λc a=>h (CT _ _ a).1];rfl
noncomputable def EW(σ:St)(a:Db):St:=a.map λi=>(σ[i]?).join
def iL(σ)(idx):(EW σ idx).length=idx.length:=by unfold EW;rw[lM0]
def zM(X:Cx)(sc:Scope)(T:D0)(idx:Db)(C:Addr)(s₂:ř)(H1:Hp)(fp:B9):Cx where
 prog:=X.prog
 w:=X.w
 K:=X.K
 mg:=X.mg
 base:=X.base
 A:=X.A
 N:=T++idx.map λi=>(X.N[i]?).getD Str.empty
 s₀:=s₂
 H₀:=H1
 env:=compEnvC sc (Ii X.env sc C) C X.env
 outer:=X.stack
 stack:=X.stack
 ex:=fp
 fn:=λx=>sc.names.lookup x==some .cell
 calm:=X.calm
 pn:=[]
 xe:=λ_ _=>False
def Jp(B:TI)(g:TG)(w:Addr->ř->Hp->List Addr->TT)(E:Addr->ř->Hp->List Addr->TE)(nt:Nat)(q:Db):TE:=λσ H Q=>B σ H λJ u=> ∃W:Nat->Nat->List V->Hp->Prop,(∃m,W 0 m [] u)/\ ∀i m j k,W i m j k->(j.length)<=sizeLine/\
 ((J.stop i k/\ ∀D,k D=none->Q (.ref D) (yV k D (.lst j)))\/
   (J.go i k/\(j.length)<sizeLine/\ ∀x v,J.yld i k x v-> ∀τ:St,τ.length=nt->g x (τ++EW σ q) v λc A=>(∃s,c=s++EW σ q/\s.length=nt)/\
    ∀C a fp,w C a u fp c A λb H5=>if b=true then E C a u fp c H5 λy H6=> ∃o,o<m/\W (i+1) o (j++[y]) H6 else∃o,o<m/\W (i+1) o j H5))
section
def PD(I:Nat->ř->Prop)
  (turn: ∀n s,I n s->wpAny (model prog w) A (pyNext it) (λr j=>match r with
   |none=>R (.ok .next) j
   |some v=>wpAny (model prog w) A (letOwnedTupleGo target it v) (λ_ q=>wpAny (model prog w) A (assign target env v) (λ_ u=>
     wpAny ↑3 A (forIn ifs true λc r=>if r=true then do let ok <-isTrue c env (eval c env);pure (ForInStep.yield ok)else pure (ForInStep.yield r)) (λok k=>
      if ok=true then wpAny ↑3 A (eval elt env) (λx B=>
       wpAny ↑3 A (call (.builtin "list.append") [acc,x]) (λ_ y=> ∃m,m<n/\I m y) (λ_ _=>False) B) (λ_ _=>False) k
      else∃m,m<n/\I m k) (λ_ _=>False) u) (λ_ _=>False) q) (λ_ _=>False) j) (λ_ _=>False) s)
  (n) (h:I n s):codeAny ↑3 A (.compLoop (.ListComp elt [⟨target,iter,ifs,0⟩] scope pos) 0 it acc env) R s:=by
 refine codeAny_loop rfl I (λn s F=>?_) n h;refine wpAny_noted ?_;have no: ∀{G:VP}(v:Ś)(H:ř),False->G v H:=λ_ _ z=>z.elim;refine wB (wpAny_standAt (wB (ċ (turn n s F) (λr j a=>?_) (no))))
 cases r with
 |none=>exact wP a
 |some v=>
  refine wB (ċ a (λ_ q o=>wB (ċ o (λ_ u C=>wB (ċ C (λok k b=>?_) no)) no)) no)
  cases ok with
  |false=>exact wP ⟨rfl,b⟩
  |true=>
   exact wB (wB (ċ b (λx B D=>wB (ċ D (λ_ y E=>wP (wP ⟨rfl,E⟩)) no)) no))
end
def Eo(X:Cx)(a:N0)(t:TT):Prop:=
 ∀(pins:L0)(s:ř)(σ:St)(H:Hp)(Q:Bool->Hp->Prop),Inv X pins σ H s->t σ H Q->
  wpAny ↑5 X.A (forIn a true λc r=>if r=true then do let ok <-isTrue c X.env (eval c X.env);pure (ForInStep.yield ok)else pure (ForInStep.yield r)) (TP X pins σ Q) X.xe s
def zAR:TT:=λ_ H Q=>Q true H
structure CompF(osc:Scope)(N:D0)(sc:Scope)(idx:Db):Prop where
 kind:sc.kind=.function
 uni: ∀y∈sc.names,sc.names.lookup y.1=some y.2
 frees: ∀y∈sc.names,y.2=.free->osc.names.lookup y.1=some .cell\/osc.names.lookup y.1=some .free
 cap: ∀i∈idx, ∃y,N[i]? =some y/\(osc.names.lookup y=some .cell\/osc.names.lookup y=some .free)/\sc.names.lookup y=some .free
def CompF.locs(F:CompF osc N sc idx): ∀y∈sc.names,y.2=.local->sc.names.lookup y.1=some .local:=λy a e=>by rw[F.uni y a,e]
def Qq(h:tP osc N sc idx=true):CompF osc N sc idx:=by
 unfold tP at h;simp only[aE,ă,é,Bool.or_eq_true]at h;obtain⟨⟨⟨k,b⟩,c⟩,j⟩:=h;refine⟨k,λy a=>b y a,λy a e=>?_,λi hi=>?_⟩
 .rcases c y a with(z|z)|z
  .exact absurd e z
  .exact .inl z
  .exact .inr z
 .have q:=j i hi
  cases e:N[i]? with
  |none=>rw[e]at q;cases q
  |some y=>
   rw[e]at q;simp only[aE,é,Bool.or_eq_true]at q;exact⟨y,rfl,q.1,q.2⟩
def Js(h:(Qo sc osc).lookup x=some .cell\/(Qo sc osc).lookup x=some .free):(x,NameKind.free)∈sc.names\/(x,NameKind.cell)∈sc.names:=by
 have a: ∀b,(b=.cell\/b=.free)->(x,b)∈Qo sc osc->(x,NameKind.free)∈sc.names\/(x,NameKind.cell)∈sc.names:=by
  intro b j o;refine(mM0.mp o).a λq c e=>?_;obtain ⟨n,k⟩:=q;dsimp only at e;split at e
  .rename_i m;cases e;rw[aE,aE]at m;have:=by simpa using m.1.1
   subst this;exact .inl c
  .cases e;rcases j with rfl|rfl
   .exact .inr c
   .exact .inl c
 rcases h with h|h
 .exact a _ (.inl rfl) (PySem.mem_of_lookup h)
 .exact a _ (.inr rfl) (PySem.mem_of_lookup h)
theorem NH{a:Scope}{x:Str}: ∀{l:List (Str×NameKind)},l.lookup x=some .free->(l.map λ(n,k)=>if(k==NameKind.free&&a.kind==.function&&a.names.lookup n==some .cell) then(n,NameKind.cell)else(n,k)).lookup x=some .cell\/(l.map λ(n,k)=>if(k==NameKind.free&&a.kind==.function&&a.names.lookup n==some .cell) then(n,NameKind.cell)else(n,k)).lookup x=some .free
 |[],h=>by simp at h
 |(n,k)::l,h=>by
  have j:=@NH a x l;rw[ĥ]at h;rw[í];by_cases c:(k==NameKind.free&&a.kind==.function&&a.names.lookup n==some .cell)=true
  .dsimp only;rw[iP c,ĥ]
   cases b:x==n with
   |true=>exact .inl rfl
   |false=>rw[b]at h;exact j h
  .dsimp only;rw[iN0 c,ĥ]
   cases b:x==n with
   |true=>rw[b]at h;exact .inr h
   |false=>rw[b]at h;exact j h
section
variable{C:Addr}{fp:B9}
def TJ(I:Inv X pins σ H1 s₂)(F:CompF (X.env.scope) X.N sc idx): ∀y∈sc.names,y.2=.free-> ∃c,X.env.cells.lookup y.1=some c:=
 λy a e=>I.ok.has y.1 (F.frees y a e)
def kD(I:Inv X pins σ H1 s₂)(F:CompF (X.env.scope) X.N sc idx)(e:(tN X.env sc.names []).lookup x=some c):X.env.cells.lookup x=some c:=
 GU sc.names [] (TJ I F) (λ_ z=>nomatch z) _ (PySem.mem_of_lookup e)
def Qr(I:Inv X pins σ H1 s₂)(F:CompF (X.env.scope) X.N sc idx)(a:(x,NameKind.free)∈sc.names)(e:X.env.cells.lookup x=some c):(tN X.env sc.names []).lookup x=some c:=by obtain⟨b,h'⟩:=kZ (tO sc.names [] x a);rw[h'];rw[kD I F h']at e;exact e
def Ep(I:Inv X pins σ H1 s₂)(F:CompF (X.env.scope) X.N sc idx)(hC:s₂.heap.objs.size<=C)(hfp: ∀b∈fp,CS X pins H1 b)(hlt: ∀b∈fp,b<s₂.heap.objs.size):(zM X sc T idx C s₂ H1 fp).Ok where
 mod:=I.ok.mod
 kind:=F.kind
 glob:=I.ok.glob
 blt:=I.ok.blt
 above:=hC
 inj:=λx y c h1 h2=>by
  have low:=λz h=>let ⟨v,q⟩:=I.cell z c (kD I F h);q.lt;rcases eU h1 with z1|z1<;>rcases eU h2 with z2|z2
  .exact PySem.name_of_addr (own_apart sc.names _) z1 z2
  .exact absurd (low y z2) (Nat.not_lt.mpr (le_of_lt (BP z1 hC)))
  .exact absurd (low x z1) (Nat.not_lt.mpr (le_of_lt (BP z2 hC)))
  .exact I.ok.inj x y c (kD I F z1) (kD I F z2)
 has:=λx hx=>by
  show∃c,(Ii X.env sc C).lookup x=some c;unfold Ii;rw[xQ];rcases Js hx with z|z
  .obtain⟨c,hc⟩:=tO sc.names [] x z;exact kZ ⟨c,þ _ hc⟩
  .obtain⟨c,hc⟩:=vL sc.names _ z;exact kZ ⟨c,Ġ _ hc⟩
 cab:=λx c h e=>by exact le_of_lt (BP (A4 (PySem.mem_of_lookup (Ħ.mp h)) e) hC)
 hd:=I.ok.hd
 frames:=I.ok.frames
 stk:=.inl rfl
 exf:=λb hb=>⟨ä (ê (hlt b hb) hC),λx c e=>by
  rcases eU e with z|z
  .exact Ĕ (lt_trans (hlt b hb) (BP z hC))
  .exact(hfp b hb).2.2.2.2.1 x c (kD I F z)⟩
 bs:=I.bs
 bsz:=I.bsz
 noex:=λb o e hb=>by
  rcases (hfp b hb).2.2.2.1 with z|z
  .exact I.ok.noex b o e z
  .exact absurd (ê (â e) (ì I.ok.bsz.1 z)) (ĝ _)
 exfs:=λb hb z=>by
  rcases mC.mp (I.stkSub b z)with e|e
  .exact(hfp b hb).2.1 e
  .exact(hfp b hb).2.2.1 e
 funs:=I.stack
 frf:=I.stkFree
theorem XC(I:Inv X pins σ H1 s₂)(F:CompF (X.env.scope) X.N sc idx)(G:s₂.heap.objs.size<=C)(D: ∀b∈fp,CS X pins H1 b)(E: ∀b∈fp,b<s₂.heap.objs.size)
  (kp: ∀b o,s₂.heap.get? b=some o->s₄.heap.get? b=some o) (ho:s₄.os=s₂.os) (hg:s₄.gens=s₂.gens) (hn:s₄.heap.Ns C m) (hcl: ∀x c,(x,c)∈cellsFrom (C+1) sc.names []->s₄.heap.IsCell c none):
  Inv (zM X sc T idx C s₂ H1 fp) [] (T.map (λ_=>none)++EW σ idx) H1 s₄:=by
 have s: ∀c v,s₂.heap.IsCell c v->s₄.heap.IsCell c v:=λc v ⟨o,Q,P⟩=>⟨o,kp c o Q,P⟩
 refine⟨Ep I F G D E,ho,by rw[hg];exact I.bare,Un.kept kp,(Z0 m hn (λi x v W k e3=>?_)),λx c e=>?_,I.hok.fresh G,λx c e=>?_,λp S=>absurd (show p∈([]:List _)from S) (by simp),I.hok.kept kp,?_⟩
 .have w:(T++idx.map λi=>(X.N[i]?).getD Str.empty)[i]? =some x:=W;by_cases hi:i<(T.length)
  .rw[è (by simpa using hi),î]at k
   cases z:T[i]? with
   |none=>rw[z]at k;cases k
   |some y=>rw[z]at k;cases k
  .rw[ð (by simpa using hi)]at k;rw[ð #[0]]at w;rw[lM0]at k;unfold EW at k;rw[î]at w k
   cases z:idx[i - (T.length)]? with
   |none=>rw[z]at k;cases k
   |some j=>
    rw[z]at w k;refine(F.cap j (ë z)).c λy K J H=>?_;have U:=by have q:(X.N[j]?).getD Str.empty=x:=å w;rw[K]at q;exact q
    subst U
    have O:σ[j]? =some (some v):=by
     have q:(σ[j]?).join=some v:=å k
     cases L:σ[j]? with
     |none=>rw[L]at q;cases q
     |some a=>rw[L]at q;have Z:a=some v:=q;rw[Z]
    refine I.loc.a λm0 aa B=>?_;refine(B j y v K O (J.elim (λz=>.inr (.inl z)) λz=>.inr (.inr z))).a λu r l=>?_;refine Z0 u r ?_;rcases l with⟨kl,_⟩|⟨_,c,hc,q⟩
    .have A:X.env.scope.names.lookup y=some .local:=kl;rcases J with z|z<;>rw[z]at A<;>cases A
    .have M:(y,NameKind.cell)∉sc.names:=λz=>by have:=F.uni _ z;rw[H]at this;cases this
     refine .inr ⟨NH H,c,?_,s c _ q⟩;show(Ii X.env sc C).lookup y=some c;rw[Qp M];exact Qr I F (PySem.mem_of_lookup H) hc
 .rcases eU e with z|z
  .exact⟨none,hcl x c z⟩
  .obtain⟨v,q⟩:=I.cell x c (kD I F z);exact⟨v,s c v q⟩
 .rcases eU e with z|z
  .exact .inl (I.hok.fresh (le_of_lt (BP z G)))
  .exact(I.freeC x c (kD I F z)).imp id λY=>⟨by show(sc.names.lookup x==some NameKind.cell)=false;rw[F.uni _ ((NF sc.names [] _ (PySem.mem_of_lookup z)).resolve_left λy=>nomatch y)];rfl,Y.2⟩
 .show(T.map (λ_=>_)++EW σ idx).length=(T++idx.map λi=>(X.N[i]?).getD Str.empty).length;rw[lA,lA,lM0,lM0,iL]
def XD{D:Addr}(I:Inv X pins σ H1 s₂)(F:s₂.heap.objs.size<=C)(k: ∀b∈fp,CS X pins H1 b)
  (J:Inv (zM X sc T idx C s₂ H1 fp) [] σ1 H' s') (hs:Heap.SameBut C s'.heap h') (hD:s₂.heap.objs.size<=D) (hDC:D≠C) (eD:s'.heap.get? D=some {cls:=.type "list",data:=.seq its.toArray n}) (nD:H' D=none) (r:Vals ys its) (hz:ys.length<=sizeLine):
  Inv X pins σ (yV H' D (.lst ys)) {s' with heap:=h'}:=by
 have m: ∀b o,s₂.heap.get? b=some o->b≠C/\b≠D:=λb o e=>⟨ä (ê (â e) F),ä (ê (â e) hD)⟩
 have j: ∀b u,H1 b=some u->b≠D:=λb u e=>ä (ê (I.hok.lt e) hD);have y:=J.free;have B:=J.base;have w: ∀b o,b≠C->s'.heap.get? b=some o->h'.get? b=some o:=λb o a e=>(hs.2 b a).trans e;refine I.call' J.os ⟨λb o e q a s=>?_,λb o e q a s=>?_,λb o e q s=>?_,λb o e s=>?_,λb xs e=>?_,λb o u e=>?_,λb ps e=>?_⟩ ?_ J.bare λb a=>⟨(k b a).2.2.2.1,(k b a).2.1,(k b a).2.2.2.2.1,(k b a).2.2.2.2.2⟩
 .exact w b o (m b o e).1 (B.keep b o e q a s)
 .obtain⟨sl,z⟩:=B.slot b o e q a s;exact⟨sl,w b _ (m b o e).1 z⟩
 .rw[zD (m b o e).2];exact B.free b o e q s
 .obtain⟨A,z⟩:=B.there b o e s;exact⟨A,w b A (m b o e).1 z⟩
 .rw[zD (j b _ e)];exact B.tups b xs e
 .rw[zD (j b _ e)];exact B.frzs b o u e
 .rw[zD (j b _ e)];exact B.tbls b ps e
 .intro b u e;by_cases a:b=D
  .subst a;rw[zO]at e;cases e;exact⟨hz,its,n,r,w b _ hDC eD⟩
  .rw[zD a]at e;refine(J.hok b u e).stay (λc v E q=>w c v ?_ q) (λc q=>by rw[zD (zG q nD)];exact q) (λc xs q=>by rw[zD (zG q nD)];exact q) λc ob xs q=>by rw[zD (zG q nD)];exact q
   rcases E with z|z
   .rw[z];exact zG e y
   .exact zG z y
end
section
def ME
  (j:Q (newEnv scope ↑0 globals (cellsFrom (↑0+1) scope.names closure) qual none .none (some outer) builtinsNs) {s with heap:=pushCells (s.heap.push {cls:=.type "dict",data:=.dict #[]}) scope.names}):
  wpAny M A (newFunctionEnv scope globals closure [] qual none .none (some outer)) Q E s:=by
 simp only[newFunctionEnv,Option.isSome_some,if_true];refine wB (wpAny_alloc ?_);refine wB (wpAny_layCells _ (λc kind b=>by cases a:kind==NameKind.cell<;>simp[a]) _ _ _ _ ?_);refine qq (show({s with heap:=s.heap.push {cls:=.type "dict",data:=.dict #[]}}:ř).heap.objs.size=↑0+1 from Ĝ ..) ?_;exact wB (wP (wP j))
theorem TL(T)(idx)
  (hi:Z9 C X tg iter wi) (hCx: ∀c j U fp pins σ,Inv X pins σ U j->C (zM X sc T idx c j U fp)) (hB:tP (X.env.scope) X.N sc idx=true)
  (hg: ∀C j H1 fp,PG (zM X sc T idx C j H1 fp) tg g)
  (hc: ∀C j H1 fp,Eo (zM X sc T idx C j H1 fp) ifs (tc C j H1 fp))
  (he: ∀C j H1 fp,PE (zM X sc T idx C j H1 fp) elt (te C j H1 fp))
  (hs: ∀x,foldedSetIterable iter X.env x=pure x:=by intro _;rfl)
         (I:↑1) (h:Jp wi g tc te (T.length) idx σ H Q)
  (fin: ∀ D C  Y  H'  r ,(∀h',Heap.SameBut C Y.heap h'->Inv X pins σ H' {Y with heap:=h'})->CS X pins H' C->(∃m,Y.heap.Ns C m)->Q (.ref D) H'->
   compPost ↑5 X.A X.xe use Q' (.ref D) C (.ok r) Y):
  wpAny ↑5 X.A (comprehension ↑15 sc X.env (firstIterPos [⟨tg,iter,ifs,0⟩] pos) (newList []) false (eval iter X.env) use) Q' X.xe s:=by
 have cf:=Qq hB;refine wpAny_comprehension_free rfl hs (MD (TJ I cf)) cf.kind cf.locs ?_;refine xV (hi pins s σ H _ I h) λv s1 h1=>xV h1 λa7 a h2=>?_;obtain⟨it,fp,tn,J,U,e,P,O,ak,f2,W,⟨m0,w0⟩,ax⟩:=h2;subst e;have aa: ∀b∈fp,b<a.heap.objs.size:=λb E=>let ⟨o,e,_⟩:=O.obj _ _ ak b E;â e;refine Ą (ME ?_);dsimp only;generalize aj:a.heap.push {cls:=.type "list",dict:=none,data:=.seq ([]:A0).toArray}=HH;generalize ah:pushCells _ sc.names=h₁;have hC:(HH.objs.size)=(a.heap.objs.size)+1:=by rw[<-aj,Ĝ]
 have S:(a.heap.objs.size)≠HH.objs.size:=by rw[hC];exact ä (ę _)
 have G:(a.heap.objs.size)<=HH.objs.size:=by rw[hC];exact le_succ _
 have av: ∀b o,HH.get? b=some o->h₁.get? b=some o:=λb o e=>ah▸pushCells_keeps _ _ b o (hP0 _ e);have ag: ∀b o,a.heap.get? b=some o->h₁.get? b=some o:=λb o e=>av b o (aj▸hP0 _ e);have a4: ∀x c,(x,c)∈cellsFrom (HH.objs.size+1) sc.names []->h₁.IsCell c none:=λx c hm=>by have ok:=cellsFrom_ok sc.names (HH.push {cls:=.type "dict",data:=.dict #[]}) 0 [] ⟨λ_ _ hm=>(nomatch hm),List.Pairwise.nil⟩ (zero_le _);rw[Ĝ,ah]at ok;exact(ok.empty x c hm).1
 have cD: ∀x c,(Ii X.env sc (HH.objs.size)).lookup x=some c->c≠a.heap.objs.size:=λx c e=>by
  rcases eU e with z|z
  .exact Ĕ (BP z G)
  .obtain⟨v,q⟩:=P.cell x c (kD P cf z);exact ä q.lt
 have Z: ∀Y:ř,Y={a with heap:=h₁}->
   codeAny ↑5 X.A (.compLoop ↑15 0 (.ref it) (.ref (a.heap.objs.size)) (compEnvC sc (Ii X.env sc (HH.objs.size)) (HH.objs.size) X.env))
    (compPost ↑5 X.A X.xe use Q' (.ref (a.heap.objs.size)) (HH.objs.size)) Y:=by
  rintro Y rfl
  have J0:Inv _ [] (T.map (λ_=>none)++EW σ idx) U {a with heap:=h₁}:=
   XC P cf G f2 aa ag rfl rfl (ah▸(Heap.Ns.new HH (.type "dict")).keeps (pushCells_keeps _ _)) a4
  refine PD (λk s'=> ∃(i:Nat)(ys:List V)(B:A0)(n:Nat)(H':Hp)(τ:St),Inv _ [] (τ++EW σ idx) H' s'/\τ.length=(T.length)/\tn i s'.heap/\(∀b∈fp,H' b=none)/\
   s'.heap.get? (a.heap.objs.size)=some {cls:=.type "list",data:=.seq B.toArray n}/\H' (a.heap.objs.size)=none/\Vals ys B/\W i k ys H') ?_ m0
   (YK 0 ([]) ([]) 0 U _ ⟨J0,(by rw[lM0]),O.keep _ _ _ ak λb _ o e=>ag b o e,(λb E=>(f2 b E).1),av _ _ (aj▸ã _ rfl),P.hok.fresh (à _),.nil,w0⟩)
  rintro k s3 ⟨i,ys,B,n,H3,τ,I3,a3,aq,au,a6,ai,r3,w3⟩;obtain⟨hz,a0⟩:=ax i k ys H3 w3;have ar:(a.heap.objs.size)∉(zM X sc T idx (HH.objs.size) a U fp).fs:=λz=>by obtain⟨_,o,ho,_⟩:=P.stack.mem z;exact absurd (â ho) (ĝ _)
  have ay: ∀{H':Hp}{s':ř},s'.heap.get? (a.heap.objs.size)=some {cls:=.type "list",data:=.seq B.toArray n}->H' (a.heap.objs.size)=none->
    ∀p∈[((a.heap.objs.size),_)],s'.heap.get? p.1=some p.2/\H' p.1=none/\p.1≠(zM X sc T idx (HH.objs.size) a U fp).env.locals/\p.1∉(zM X sc T idx (HH.objs.size) a U fp).fs/\ ∀v,p.2.data≠.cell v:=
   λ{H' s'} e1 e2 p K=>by
    have ep:p=((a.heap.objs.size),{cls:=.type "list",data:=.seq B.toArray n}):=by simpa using K
    subst ep;exact⟨e1,e2,S,ar,λv z=>by cases z⟩
  have P3:Inv _ [_] (τ++EW σ idx) H3 s3:=I3.pins_of (ay a6 ai)
  have M: ∀{H':Hp},(∀b∈fp,H' b=none)-> ∀b∈fp,CS _ [_] H' b:=λ{H'} hn b E=>by
   have ao:=aa b E;refine⟨hn b E,ä (ê ao G),I3.ok.exfs b E,.inl E,λx c e=>?_,λp K=>?_⟩
   .rcases eU e with z|z
    .exact Ĕ (lt_trans ao (BP z G))
    .exact(f2 b E).2.2.2.2.1 x c (kD P cf z)
   have ep:p=((a.heap.objs.size),({cls:=.type "list",data:=.seq B.toArray n}:Obj)):=by simpa [zM]using K
   subst ep;exact Ĕ ao
  rcases a0 with⟨stop,q⟩|⟨go,hl2,step⟩
  .refine xV (O.done (zM X sc T idx HH.objs.size a U fp) rfl rfl rfl (hCx _ _ _ _ _ _ P) i _ s3 _ H3 (λ_ _=>False) P3 (M au) aq stop) λr Y ⟨hr,I4⟩=>?_;subst hr;refine(id I4.loc).a λm hn _=>?_;exact fin _ _ Y _ _ (λh' az=>XD P G f2 (I4.pins_of (λp K=>nomatch K)) az (à _) S ((I4.pin (a.heap.objs.size,{cls:=.type "list",data:=.seq B.toArray n}) (by simp)).1) ai r3 hz) (P.fpOk G (by rw[zD (Ne.symm S)];exact I4.free)) ⟨m,hn⟩ (q _ ai)
  .refine xV (O.item (zM X sc T idx (HH.objs.size) a U fp) rfl rfl rfl (hCx _ _ _ _ _ _ P) i _ s3 _ H3 (λ_ _=>False) P3 (M au) aq go) λr Y ⟨u,hr,h4⟩=>?_;subst hr;refine xV h4 λ_ s5 ⟨x,H5,I5,r5,y5,L,a5⟩=>?_;refine xV (hg (HH.objs.size) a U fp _ s5 _ H5 x u _ (I5.pinned (M a5) (O.obj _ _ L)) r5 (step x H5 y5 τ a3)) λ_ s6 ⟨a8,H6,I6,⟨af,e6,l6⟩,q6⟩=>?_;subst e6;refine xV (hc (HH.objs.size) a U fp _ s6 _ H6 _ I6 (q6 (HH.objs.size) a fp)) λok s7 ⟨H7,I7,q7⟩=>?_
   have mD:((a.heap.objs.size),({cls:=.type "list",data:=.seq B.toArray n}:Obj))∈(zM X sc T idx (HH.objs.size) a U fp).pn++([((a.heap.objs.size),{cls:=.type "list",data:=.seq B.toArray n})]++IS fp s5.heap):=
    þ _ (Ġ _ (by simp))
   have mF: ∀b∈fp, ∀o,s5.heap.get? b=some o->(b,o)∈(zM X sc T idx (HH.objs.size) a U fp).pn++([((a.heap.objs.size),{cls:=.type "list",data:=.seq B.toArray n})]++IS fp s5.heap):=λb E o e=>
    þ _ (þ _ (BN E e))
   cases ok with
   |false=>
    rw[iN0 xF0]at q7 ⊢;obtain⟨m',ae,w7⟩:=q7;refine⟨m',ae,i+1,ys,B,n,H7,af,I7.pins_of (λp K=>nomatch K),l6,O.keep _ _ _ L λb E o e=>(I7.pin _ (mF b E o e)).1,λb E=>?_,(I7.pin _ mD).1,(I7.pin _ mD).2.1,r3,w7⟩;obtain⟨o,e,d⟩:=O.obj _ _ L b E;exact(I7.pin _ (mF b E o e)).2.1
   |true=>
    rw[iP rfl]at q7 ⊢;refine xV (he HH.objs.size a U fp _ s7 _ H7 _ I7 q7) λy s8 ⟨yv,H8,I8,r8,m',ae,w8⟩=>?_;have ab:=(I8.pin _ mD).1;have aw:=(I8.pin _ mD).2.1;have hl:=r3.length;have q:=PySem.IsL.update ab (λz=>z.push y);rw[show B.toArray.push y=(B++[y]).toArray by simp]at q;refine call_meets PySem.F.slot_list_append ⟨_,ab,rfl⟩ PySem.F.entry_list_append (PySem.F.args_list_append_2 _ _) (PySem.list_append a.heap.objs.size B.toArray n y (by rw[sA];lia)) ⟨ab,?_⟩;have I9:Inv _ [] (af++EW σ idx) H8 s8:=I8.pins_of (λp K=>nomatch K);have up: ∀b o,b≠a.heap.objs.size->s8.heap.get? b=some o->(s8.heap.update a.heap.objs.size (Obj.mapSeq λz=>z.push y)).get? b=some o:=λb o E e=>(ù s8.heap _ (Ne.symm E)).trans e;refine⟨m',ae,i+1,_,_,_,H8,af,I9.turned up aw S (.inr (à _)) cD (λp K=>nomatch K),l6,?_,λb E=>?_,q,aw,r3.append (.cons r8 .nil),w8⟩
    .exact O.keep _ _ _ L λb E o e=>up b o (ä (aa b E)) (I8.pin _ (mF b E o e)).1
    .obtain⟨o,e,d⟩:=O.obj _ _ L b E;exact(I8.pin _ (mF b E o e)).2.1
 exact codeAny_compStart_list (Z _ rfl) (O.self X.A 0 _ _ _ (O.keep _ _ _ ak λb _ o e=>ag b o e) (Z _ rfl))
def Qt(T)(idx)
  (hi:Z9 C X tg iter wi) (hCx: ∀c j u fp pins σ,Inv X pins σ u j->C (zM X sc T idx c j u fp)) (hB:tP (X.env.scope) X.N sc idx=true)
  (hg: ∀C j k fp,PG (zM X sc T idx C j k fp) tg g)
  (hc: ∀C j k fp,Eo (zM X sc T idx C j k fp) ifs (tc C j k fp))
  (he: ∀C j k fp,PE (zM X sc T idx C j k fp) elt (te C j k fp))
  (hs: ∀x,foldedSetIterable iter X.env x=pure x:=by intro _;rfl):
  PE X ↑15 (Jp wi g tc te (T.length) idx):=by
 rw[22];exact TL T idx hi hCx hB hg hc he hs I h λD C o H' r J _ ⟨m,b⟩ q=>(Z0 m b (λh' a=>(ZC (.ref D) H' (J h' a) rfl q)))
end
noncomputable def gO(x:Db):Str:=⟨x.toArray⟩
def jN(x):(gO x).length=x.length:=by simp[gO,Str.length]
def PF(x):(gO x).cps.toList=x:=by simp[gO]
def CU(h:gO x=gO y):x=y:=by have:=congrArg (λs=>s.cps.toList) h;simpa [gO]using this
def PH(x y):gO x++gO y=gO (x++y):=by show Str.append _ _=_;simp[Str.append,gO]
theorem Qu(c):(⟨#[c]⟩)=gO [c]:=rfl
def jA{α:Type}(xs:List α)(lo hi:M0):List α:=(xs.drop (HT.sIx ↑12 0 lo)).take (HT.sIx ↑12 ↑12 hi - HT.sIx ↑12 0 lo)
theorem strIdx(lo hi)(n):Builtin.Str.strSliceIndices lo hi 1 n=(List.range (HT.sIx n n hi - HT.sIx n 0 lo)).map (HT.sIx n 0 lo+·):=by
 have b:(match lo with |none=>(if(1:Int)>0 then(0:Int)else(n:Int) - 1)|some i=>if(1:Int)>0 then max 0 (min (if i<0 then i+(n:Int)else i) (n:Int))else max (-1) (min (if i<0 then i+(n:Int)else i) ((n:Int) - 1)))=((HT.sIx n 0 lo:Nat):Int):=by
  cases lo with
  |none=>simp[HT.sIx]
  |some i=>
   simp only[HT.sIx,show(1:Int)>0 by decide,if_true];by_cases h:i<0
   .simp only[h,if_true];lia
   .simp only[h,iF];lia
 have a:(match hi with |none=>(if(1:Int)>0 then(n:Int)else -1)|some i=>if(1:Int)>0 then max 0 (min (if i<0 then i+(n:Int)else i) (n:Int))else max (-1) (min (if i<0 then i+(n:Int)else i) ((n:Int) - 1)))=((HT.sIx n n hi:Nat):Int):=by
  cases hi with
  |none=>simp[HT.sIx]
  |some i=>
   simp only[HT.sIx,show(1:Int)>0 by decide,if_true];by_cases h:i<0
   .simp only[h,if_true];lia
   .simp only[h,iF];lia
 rw[<-sliceRange_one];unfold Builtin.Str.strSliceIndices;rw[<-b, <-a];cases lo<;>cases hi<;>rfl
theorem Es(x)(lo hi):Txt.slice (gO x) lo hi=gO (jA x lo hi):=by
 unfold Txt.slice;rw[strIdx,jN];have c:=by have:=pick_run (gO x).cps (HT.sIx x.length 0 lo) (HT.sIx x.length x.length hi - HT.sIx x.length 0 lo);exact this
 rw[c];split
 .rename_i a;rw[aE]at a;have b:=by simpa using a.2
  have j:HT.sIx x.length x.length hi<=x.length:=HT.sIx_le _ _ (à _) _;have k:HT.sIx x.length 0 lo<=x.length:=HT.sIx_le _ _ (zero_le _) _;have e:HT.sIx x.length 0 lo=0:=by lia
  unfold jA;rw[b,e];simp
 .rfl
section
def rSlS:V->Option Int->Option Int->Hp->VK->Prop:=λx lo hi H Q=> ∃a,x=.str (gO a)/\a.length<=sizeLine/\Q (.str (gO (jA a lo hi))) H
def A5:SlR X rSlS:=by
 intro pins s σ H x v E F lo hi sl Q I B hs A y h;refine h.c λD G C q=>?_;subst G;obtain⟨t,rfl⟩:=B;have c:(Txt.slice (gO D) lo hi).length<=sizeLine:=ì (Txt.slice_le _ _ _) (by rw[jN];exact C);rw[<-Es]at q;refine ZC ("str") _ slot_str_getitem.lookup (typeIs_str _ _ _) ?_;obtain⟨o,m,a,b⟩:=hs
 cases A with
 |none=>
  cases y with
  |none=>exact Ŏ (l:=none) (u:=none) (st:=none) (ZB o m a b) rfl (post_val_or_str ⟨c,λw k=>(ZC (.str _) H (I.tok _) ⟨_,rfl⟩ q)⟩)
  |int j uj=>exact Ŏ (l:=none) (u:=some (j,uj)) (st:=none) ⟨o,m,a,b⟩ rfl (post_val_or_str ⟨c,λw k=>(ZC (.str _) H (I.tok _) ⟨_,rfl⟩ q)⟩)
 |int i ui=>
  cases y with
  |none=>exact Ŏ (l:=some (i,ui)) (u:=none) (st:=none) (ZB o m a b) rfl (post_val_or_str ⟨c,λw k=>(ZC (.str _) H (I.tok _) ⟨_,rfl⟩ q)⟩)
  |int j uj=>exact Ŏ (l:=some (i,ui)) (u:=some (j,uj)) (st:=none) (ZB o m a b) rfl (post_val_or_str ⟨c,λw k=>(ZC (.str _) H (I.tok _) ⟨_,rfl⟩ q)⟩)
noncomputable def PJ(a:Db)(k:Int):List Nat:=(List.replicate k.toNat a).flatten
theorem EX(cs): ∀ k (j:Db),List.foldl (λm q=>m++q) j.toArray (List.replicate k cs.toArray)=(j++(List.replicate k cs).flatten).toArray
 |0,j=>by simp
 |k+1,j=>by rw[ŗ,ŗ,flatten_cons, <-aA, <-EX cs k _];simp
theorem XE:OpR X (binaryOp .Mult) (λx y H Q=> ∃j k,x=.str (gO j)/\y=.int k/\0<=k/\k<1000/\(j.length)<=1000/\Q (.str (gO (PJ j k))) H):=by
 intro pins s σ H x y v u Q I D B h;obtain⟨j,k,rfl,rfl,K,M,F,q⟩:=h;obtain⟨t,rfl⟩:=D;obtain⟨J,rfl⟩:=B;have hs:=ý;have m:(j.length) * k.toNat<=1000 * 1000:=mul_le_mul F #[0];refine PySem.P.mul_str (by rw[dF0 #[0],dF0 #[0]];rfl) (λL _=>?_) (λ_ _=>?_) ?_
 .rw[jN]
  have:(1000:Int)<=(2 ^ 63 - 1) / k:=by
   rw[Int.le_ediv_iff_mul_le #[0]]
   lia
  lia
 .rw[jN];exact dF0 #[0]
 .have made: ∀(z:Str),z=gO _->z.length<=sizeLine->(Made.str z).post (EP X pins σ Q) s:=λz C E=>⟨E,by rw[C];exact(ZC (.str _) H (I.tok _) ⟨_,rfl⟩ q)⟩
  have b:(PJ j k).length=k.toNat * j.length:=by unfold PJ;rw[len_rep]
  by_cases w:k<1
  .rw[iP w];have G:k.toNat=0:=by lia
   refine made _ ?_ ↑4;unfold PJ;rw[G];rfl
  .rw[iN0 w];by_cases a:(k==1 || (gO j).length==0)=true
   .rw[iP a];refine ZC (.str _) H I ⟨_,rfl⟩ ?_
    have:PJ j k=j:=by
     unfold PJ;rw[Bool.or_eq_true]at a;rcases a with a|a
     .have:=by simpa using a
      subst this;simp
     .rw[jN]at a;have:j=[]:=by cases j with |nil=>rfl|cons _ _=>simp at a
      subst this;simp
    rw[this]at q;exact q
   .rw[iN0 a];refine made _ ?_ ?_
    .unfold PJ gO;have:=EX j k.toNat [];rw[Œ]at this;exact congrArg Str.mk this
    .have A:(List.foldl (λc o=>c++o) #[] (List.replicate k.toNat (gO j).cps))=(PJ j k).toArray:=by have:=EX j k.toNat [];rw[Œ]at this;exact this
     show(List.foldl (λc o=>c++o) #[] _).size<=sizeLine;rw[A,sA,b,Nat.mul_comm]
     lia
def PK:CallR X (.builtin "all") (λxs H Q=> ∃(a:Addr)(bs:L1),xs=[.ref a]/\SqL X.K H a (bs.map V.bl)/\X.calm=true/\Q (.bl (bs.all id)) H):=by
 intro pins s σ H xs P Q I r h;refine h.k λa bs Z F J q=>?_;subst Z;refine(vals1 r).a λu ac O=>?_;subst ac;subst O;refine(I.list F).c λm D B S=>?_;have c:m.length=bs.length:=by rw[<-D.length,lM0]
 refine PySem.call_all_walk (Ŀ B.isList ?_);have E:a≠s.heap.objs.size:=by refine B.isList.a λo N _=>?_;exact ä (â N)
 have I1: ∀(h':Heap)(tk:Nat),(∀b o,b∉[↑0]->(s.heap.push {cls:=.type "list_iterator",data:=.fields #[.ref a,.int 0 0]}).get? b=some o->h'.get? b=some o)->Inv X pins σ H {s with heap:=h',toks:=tk}:=λh' tk k=>
  I.kept λb o e=>k b o (by simpa using ä (â e)) (hP0 _ e)
 refine YE _ _ _ _ _ _ (λi=>bs.getD i false) ⟨rfl,PySem.Walks.list (by first |exact I.ok.hd J|exact _) _ a E m.toArray,⟨(ZB _ (ã _ rfl) rfl rfl),B.isList.at λo e=>hP0 _ e⟩,?_,(λh' tk k=>?_)⟩
 .intro i v Y U T L C;have j:=by simpa using L
  have hi:i<bs.length:=by rw[<-c];exact(gS.mp j).1
  have M:(bs.map V.bl)[i]? =some (V.bl (bs.getD i false)):=by simp[hi]
  refine(D.get M).a λW w A=>?_;rw[j]at w;cases w;subst A;exact ĉ C
 .refine(ZC _ H (I1 h' tk k) ?_ q);congr 1;refine qq sA (qq c ?_)
  have: ∀(l:L1),(List.range (l.length)).all (λi=>l.getD i false)=l.all id:=by
   intro l;rw[Ĉ,ă,ă];constructor
   .intro h x G;obtain⟨i,hi,rfl⟩:=Ń G;have:=h i (ú.mpr hi);simpa [Ę,hi]using this
   .intro h i hi;have y:=ú.mp hi;have:=h l[i] (Ĩ y);simpa [Ę,y]using this
  exact this bs
end
section
def PU(X:Cx)(e:Expr)(t:TE):Prop:= ∀(i:Nat)(x:Str)(a pos:Pos),X.N.Nodup->X.N[i]? =some x->Loc (X.env.scope) x->(X.fn x=true\/X.env.scope.names.lookup x=some .local)->
 swapsWith e (some (.Name x a)) pos.line X.env=pure true->PS X (.Assign [.Name x a] e pos) (Zg t (Iu i))
def Qv(T)(idx)
  (hi:Z9 C X tg iter wi) (hCx: ∀c j G fp pins σ,Inv X pins σ G j->C (zM X sc T idx c j G fp)) (hB:tP (X.env.scope) X.N sc idx=true)
  (hg: ∀C j u fp,PG (zM X sc T idx C j u fp) tg g)
  (hc: ∀C j u fp,Eo (zM X sc T idx C j u fp) ifs (tc C j u fp))
  (he: ∀C j u fp,PE (zM X sc T idx C j u fp) elt (te C j u fp))
  (hs: ∀x,foldedSetIterable iter X.env x=pure x:=by intro _;rfl):
  PU X ↑15 (Jp wi g tc te (T.length) idx):=by
 intro i x K J L F Q U B pins s σ H D I h;rw[exec_Assign_Name_used _ _ _ _ B];refine wB (wpAny_standAt (wB ?_));refine wB (xV (TL T idx hi hCx hB hg hc he hs I h λS C O H' _ W k E q=>?_) λ_ Y P=>wP (wP P));refine wpAny_assign_Name (MZ (W O.heap (Ğ _ _)) L F Q (show RelV (.ref S) _ from rfl) (λY M ⟨a,y,v⟩=>?_) U);obtain⟨m,E⟩:=E
 have A:C≠a:=by
  rintro rfl;rcases v with v|v
  .exact k.2.1 v
  .exact k.2.2.2.2.1 x _ v rfl
 refine Z0 m (E.sameBut y A) (λh' w=>(Zy _ H' ?_ q));exact M.turned (λb o Z e=>(w.2 b Z).trans e) k.1 k.2.1 k.2.2.2.1 k.2.2.2.2.1 k.2.2.2.2.2
end
end L2
namespace L2
namespace M
open PySem PySem.Spec PyProof.Rows
def Jt(k:RelV y u)(j:RelV x v)(o:pS y=true)(m:pS x=true):SeqAt.RcAt A s u v (eqV y x)/\SeqAt.RcNeAt A s u v (!eqV y x):=by
 cases y with
 |non=>
  cases k
  cases x with
  |non=>subst j;exact⟨.none_none,.none_none⟩
  |bl b=>subst j;exact⟨.none_bool b,.none_bool b⟩
  |int b=>obtain⟨t,rfl⟩:=j;exact⟨.none_int b t,.none_int b t⟩
  |str b=>obtain⟨t,rfl⟩:=j;exact⟨.none_str b t,.none_str b t⟩
  |_=>cases m
 |bl a=>
  subst k
  cases x with
  |non=>subst j;exact⟨.bool_none a,.bool_none a⟩
  |bl b=>subst j;exact⟨.bool_bool a b,.bool_bool a b⟩
  |int b=>obtain⟨t,rfl⟩:=j;exact⟨.bool_int a b t,.bool_int a b t⟩
  |str b=>obtain⟨t,rfl⟩:=j;exact⟨.bool_str a b t,.bool_str a b t⟩
  |_=>cases m
 |int a=>
  obtain⟨c,rfl⟩:=k
  cases x with
  |non=>subst j;exact⟨.int_none a c,.int_none a c⟩
  |bl b=>subst j;exact⟨.int_bool a c b,.int_bool a c b⟩
  |int b=>obtain⟨t,rfl⟩:=j;exact⟨.int_int a c b t,.int_int a c b t⟩
  |str b=>obtain⟨t,rfl⟩:=j;exact⟨.int_str a c b t,.int_str a c b t⟩
  |_=>cases m
 |str a=>
  obtain⟨c,rfl⟩:=k
  cases x with
  |non=>subst j;exact⟨.str_none a c,.str_none a c⟩
  |bl b=>subst j;exact⟨.str_bool a c b,.str_bool a c b⟩
  |int b=>obtain⟨t,rfl⟩:=j;exact⟨.str_int a c b t,.str_int a c b t⟩
  |str b=>obtain⟨t,rfl⟩:=j;exact⟨.str_str a c b t,.str_str a c b t⟩
  |_=>cases m
 |_=>cases o
abbrev Six(A:Around)(s:Shared)(u v:Value):Prop:=SeqAt.EqAt A s u v false/\SeqAt.EqAt A s v u false/\SeqAt.RcAt A s u v false/\SeqAt.RcAt A s v u false/\SeqAt.RcNeAt A s u v true/\SeqAt.RcNeAt A s v u true
def NI(j:RelV x v)(k:pS x=true)(a:s.heap.IsList l items)(c:A.units<cLine):Six A s (.ref l) v:=by
 cases x with
 |non=>subst j;exact⟨.list_none a c,.none_list a c,.list_none a c,.none_list a c,.list_none a c,.none_list a c⟩
 |bl b=>subst j;exact⟨.list_bool b a c,.bool_list b a c,.list_bool b a c,.bool_list b a c,.list_bool b a c,.bool_list b a c⟩
 |int b=>obtain⟨t,rfl⟩:=j;exact⟨.list_int b t a c,.int_list b t a c,.list_int b t a c,.int_list b t a c,.list_int b t a c,.int_list b t a c⟩
 |str b=>obtain⟨t,rfl⟩:=j;exact⟨.list_str b t a c,.str_list b t a c,.list_str b t a c,.str_list b t a c,.list_str b t a c,.str_list b t a c⟩
 |_=>cases k
def GV(j:RelV x v)(k:pS x=true)(a:s.heap.IsTuple l items)(c:A.units<cLine):Six A s (.ref l) v:=by
 cases x with
 |non=>subst j;exact⟨.tuple_none a c,.none_tuple a c,.tuple_none a c,.none_tuple a c,.tuple_none a c,.none_tuple a c⟩
 |bl b=>subst j;exact⟨.tuple_bool b a c,.bool_tuple b a c,.tuple_bool b a c,.bool_tuple b a c,.tuple_bool b a c,.bool_tuple b a c⟩
 |int b=>obtain⟨t,rfl⟩:=j;exact⟨.tuple_int b t a c,.int_tuple b t a c,.tuple_int b t a c,.int_tuple b t a c,.tuple_int b t a c,.int_tuple b t a c⟩
 |str b=>obtain⟨t,rfl⟩:=j;exact⟨.tuple_str b t a c,.str_tuple b t a c,.tuple_str b t a c,.str_tuple b t a c,.tuple_str b t a c,.str_tuple b t a c⟩
 |_=>cases k
def Ju(h:pS y=true):eqV y y=true:=by cases y<;>first |rfl|(simp[eqV];done)|exact absurd h xF0
abbrev K3:=Option Key
inductive NK where
 |key (k:K3)|tup (ks:List NK)
instance:DecidableEq NK:=λ_ _=>Classical.propDecidable _
section
variable(knd:KeyKind prog w K3)
mutual
def MF(h:Heap):NK->Ś->Prop
 |.key k,v=>knd.is k v=true
 |.tup ks,v=> ∃a o j n,v=.ref a/\h.get? a=some o/\o.cls=.type "tuple"/\o.data=.seq j n/\tQ h ks j.toList
def tQ(h:Heap):List NK->List Ś->Prop
 |[],vs=>vs=[]
 |k::ks,vs=> ∃v r,vs=v::r/\MF h k v/\tQ h ks r
end
mutual
def GW:NK->Int
 |.key k=>knd.hash k
 |.tup ks=>reduceHash (Builtin.Tuple.tupleHashOf (IX ks))
def IX:List NK->List Int
 |[]=>[]
 |k::ks=>GW k::IX ks
end
mutual
def IY:NK->Nat
 |.key _=>1
 |.tup ks=>cB ks+1
def cB:List NK->Nat
 |[]=>0
 |k::ks=>IY k+cB ks
end
mutual
def AO:NK->Nat
 |.key _=>0
 |.tup ks=>AV ks+1
def AV:List NK->Nat
 |[]=>0
 |k::ks=>max (AO k) (AV ks)
end
variable{knd}
theorem xX:MF knd h (.key k) v↔knd.is k v=true:=by unfold MF;exact Iff.rfl
def xL:MF knd h (.tup ks) v↔ ∃a o j n,v=.ref a/\h.get? a=some o/\o.cls=.type "tuple"/\o.data=.seq j n/\tQ knd h ks j.toList:=by
 conv=>lhs;unfold MF
theorem wC:tQ knd h [] vs↔vs=[]:=by unfold tQ;exact Iff.rfl
def yH:tQ knd h (k::ks) vs↔ ∃v r,vs=v::r/\MF knd h k v/\tQ knd h ks r:=by
 conv=>lhs;unfold tQ
mutual
theorem PL{h:Heap}: ∀{x y:NK}{v:Ś},MF knd h x v->MF knd h y v->x=y
 |.key k,.key k',v,hx,hy=>by rw[knd.inj v k k' (xX.mp hx) (xX.mp hy)]
 |.key k,.tup ks,v,hx,hy=>by obtain⟨a,o,j,n,rfl,_⟩:=xL.mp hy;have:=knd.byValue _ _ (xX.mp hx);simp[carriedByValue]at this
 |.tup ks,.key k,v,hx,hy=>by obtain⟨a,o,j,n,rfl,_⟩:=xL.mp hx;have:=knd.byValue _ _ (xX.mp hy);simp[carriedByValue]at this
 |.tup ks,.tup ks',v,hx,hy=>by
  obtain⟨a,o,j,n,e,w,_,u,hi⟩:=xL.mp hx;obtain⟨C,A,c,B,s,m,_,b,q⟩:=xL.mp hy;rw[e]at s;cases s;obtain rfl:o=A:=å (w.symm.trans m);rw[u]at b;injection b with h1 _
  subst h1;rw[TN hi q]
theorem TN{h:Heap}: ∀{xs j:List NK}{vs:A0},tQ knd h xs vs->tQ knd h j vs->xs=j
 |[],[],_,_,_=>rfl
 |[],y::j,vs,hx,hy=>by obtain⟨v,r,e,_⟩:=yH.mp hy;rw[wC.mp hx]at e;cases e
 |x::xs,[],vs,hx,hy=>by obtain⟨v,r,e,_⟩:=yH.mp hx;rw[wC.mp hy]at e;cases e
 |x::xs,y::j,vs,hx,hy=>by obtain⟨v,r,e,m,k⟩:=yH.mp hx;obtain⟨o,q,c,b,a⟩:=yH.mp hy;rw[e]at c;cases c;rw[PL m b,TN k a]
end
mutual
theorem TQ{h h':Heap}(m: ∀a o j n,h.get? a=some o->o.data=.seq j n->h'.get? a=some o): ∀{x:NK}{v:Ś},MF knd h x v->MF knd h' x v
 |.key k,v,hx=>xX.mpr (xX.mp hx)
 |.tup ks,v,hx=>by obtain⟨a,o,j,n,e,y,u,q,hi⟩:=xL.mp hx;exact xL.mpr ⟨a,o,j,n,e,m a o j n y q,u,q,NL m hi⟩
theorem NL{h h':Heap}(m: ∀a o j n,h.get? a=some o->o.data=.seq j n->h'.get? a=some o): ∀{xs:List NK}{vs:A0},tQ knd h xs vs->tQ knd h' xs vs
 |[],vs,hx=>wC.mpr (wC.mp hx)
 |x::xs,vs,hx=>by obtain⟨v,r,e,q,k⟩:=yH.mp hx;exact yH.mpr ⟨v,r,e,TQ m q,NL m k⟩
end
theorem IZ: ∀j:List NK,IX knd j=j.map (GW knd)
 |[]=>by unfold IX;rfl
 |k::j=>by unfold IX;rw[IZ j];rfl
def JA:cB []=0:=by rw[cB]
def tR(k)(ks):cB (k::ks)=IY k+cB ks:=by rw[cB]
def JB(k)(ks):AV (k::ks)=max (AO k) (AV ks):=by rw[AV]
def pU(ks):AO (.tup ks)=AV ks+1:=by rw[AO]
theorem AW: ∀ xs j ,cB (xs++j)=cB xs+cB j
 |[],j=>by rw[JA,Œ,Ĳ]
 |x::xs,j=>by rw[List.cons_append,tR,tR,AW xs j];lia
def CV{s:ř}(h:MF knd s.heap (.tup ks) (.ref a)):s.TypeIs (.ref a) "tuple":=by refine(xL.mp h).p λj o _ n k=>k.e λe c b _=>?_;cases e;exact Z0 o c b
theorem TR: ∀ n {A}{E}{s}{k}{v}{Q},AO k<=n->A.units+n<cLine->MF knd s.heap k v->Q (GW knd k) {s with toks:=s.toks+IY k}->wpAny ↑3 A (pyHash v) Q E s
 |n,A,E,s,.key k,v,Q,_,_,q,h=>knd.pyHash (xX.mp q) (by rw[IY]at h;exact h)
 |0,A,E,s,.tup j,v,Q,G,_,_,_=>by rw[pU]at G;lia
 |n+1,A,E,s,.tup j,v,Q,hdep,hu,q,h=>by
  refine(xL.mp q).l λa o _ m O J N G hi=>?_;subst O;have y:s.TypeIs (.ref a) "tuple":=(Z0 o J N)
  rw[pU]at hdep
  have C:=by
   have: ∀j:List NK,AV j<=n-> ∀k∈j,AO k<=n:=by
    intro j
    induction j with
    |nil=>intro _ k q;simp at q
    |cons x xs ih=>
     intro K k q;rw[JB]at K;rcases mC.mp q with rfl|q
     .lia
     .exact ih #[0] k q
   exact this j #[0]
  rw[GW,IY,IZ]at h
  first |refine wB (wpAny_cRoomFor_or (.inr #[0]) ?_)|skip
  refine wB (ĺ y F.slot_tuple_hash.lookup ?_);refine wB (ĺ y F.slot_tuple_hash.lookup ?_);refine wB (wpAny_callSpecialIfBoundUnlessNone?_slot y F.slot_tuple_hash (õ F.slot_tuple_hash y F.entry_tuple_hash ?_ (F.args_tuple_hash_1 _)));show wpAny _ _ (Builtin.Tuple.tupleItemsOf _ >>= _) _ _ s;refine wB (wpAny_tupleItemsOf J G ?_);refine wB ?_;rw[<-Array.forIn_toList]
  refine wpAny_forIn_list _
   (λrest (b:Array Int) H=> ∃c left,j=c++left/\tQ knd s.heap left rest/\b.toList=c.map (GW knd)/\H={s with toks:=s.toks+cB c})
   _ ?_ ?_ _ _ (Zr ([]) j rfl hi rfl (by rw[JA];rfl))
  .rintro x rest b H ⟨c,left,rfl,u,I,rfl⟩
   cases left with
   |nil=>rw[wC]at u;cases u
   |cons k ks'=>
    refine(yH.mp u).b λv r e L D=>?_;cases e;refine wB (TR n (C k (by simp)) #[0] L ?_);have M:cB (c++[k])=cB c+IY k:=by rw[AW,tR];rfl
    first
     |exact wP (Zr (c++[k]) ks' (by simp) D (by simp[I]) (by simp[add_assoc,M]))
     |exact wB _
  .rintro b H ⟨c,left,rfl,u,I,rfl⟩
   cases left with
   |cons k ks'=>refine(yH.mp u).d λv r e _=>?_;cases e
   |nil=>
    rw[aN]at h;show wpAny _ _ (retInt _) _ _ _;rw[I];refine wpAny_ret_mkInt ?_;show wpAny _ _ (if _=true then _ else _) Q E _;unfold reduceHash at h;by_cases B:(decide (-(2:Int) ^ 63<=Builtin.Tuple.tupleHashOf (c.map (GW knd)))&&decide (Builtin.Tuple.tupleHashOf (c.map (GW knd))<2 ^ 63))=true
    .rw[iP B];rw[iP B]at h;exact wP (by simpa [add_assoc]using h)
    .rw[iN0 B];rw[iN0 B]at h;exact wB (ĩ (wP (by simpa [add_assoc]using h)))
end
section
def Eu(h:Q 0xFCA86420 {s with toks:=s.toks+1}):wpAny ↑3 A (pyHash .none) Q E s:=by
 refine wB ?_;rw[cRoomFor];refine wP ?_;refine wB (ĺ (typeIs_none s) F.slot_NoneType_hash.lookup ?_);refine wB (ĺ (typeIs_none s) F.slot_NoneType_hash.lookup ?_)
 refine wB (wpAny_callSpecialIfBoundUnlessNone?_slot (typeIs_none s) F.slot_NoneType_hash
  (õ F.slot_NoneType_hash (typeIs_none s) F.entry_NoneType_hash
   (wpAny_ret_mkInt ?_) (F.args_NoneType_hash_1 _)))
 show wpAny _ _ _ Q E _;exact wP h
def zAS:K3->Ś->Bool
 |some k,v=>pQ k v
 |none,v=>v==.none
def pV: ∀{k}{v},zAS k v=true->(∃i t,k=some (.inl i)/\v=Value.int i t)\/(∃x t,k=some (.inr x)/\v=Value.str x t)\/(k=none/\v=.none)
 |some k,v,h=>by
  rcases zZ h with⟨i,t,rfl,e⟩|⟨x,t,rfl,e⟩
  .exact .inl (Zy i t rfl e)
  .exact .inr (.inl (Zy x t rfl e))
 |none,v,h=>.inr (.inr ⟨rfl,eq_of_beq h⟩)
def mk(prog)(w):KeyKind prog w K3 where
 is:=zAS
 hash:=λ|some k=>Y5 w k|none=>0xFCA86420
 inj:=λv a b ha hb=>by rcases pV ha with⟨i,t,rfl,rfl⟩|⟨x,t,rfl,rfl⟩|⟨rfl,rfl⟩<;>rcases pV hb with⟨j,u,rfl,e⟩|⟨y,u,rfl,e⟩|⟨rfl,e⟩<;>first |(injection e with e1 _;rw[e1];done)|rfl|exact nomatch e
 byValue:=λk v h=>by rcases pV h with⟨i,t,rfl,rfl⟩|⟨x,t,rfl,rfl⟩|⟨rfl,rfl⟩<;>rfl
 pyHash:=λhv h=>by
  rcases pV hv with⟨i,t,rfl,rfl⟩|⟨x,t,rfl,rfl⟩|⟨rfl,rfl⟩
  .exact wpAny_pyHash_int h
  .exact wpAny_pyHash_str h
  .exact Eu h
 eqBool:=λ{A} {E} {s} {a} {b} {u} {v} {Q} hu hv h=>by
  cases a with
  |some a=>
   cases b with
   |some b=>exact(jM prog w).eqBool hu hv (by rw[show decide (some a=some b)=decide (a=b)from by simp]at h;exact h)
   |none=>
    cases eq_of_beq hv;rw[show decide (some a=none)=false from dF0 λz=>nomatch z]at h;rcases zZ (show pQ a u=true from hu)with⟨i,t,rfl,rfl⟩|⟨x,t,rfl,rfl⟩
    .exact SeqAt.EqAt.int_none i t _ _ _ _ h
    .exact SeqAt.EqAt.str_none x t _ _ _ _ h
  |none=>
   cases eq_of_beq hu
   cases b with
   |some b=>
    rw[show decide (none=some b)=false from dF0 λz=>nomatch z]at h;rcases zZ (show pQ b v=true from hv)with⟨i,t,rfl,rfl⟩|⟨x,t,rfl,rfl⟩
    .exact SeqAt.EqAt.none_int i t _ _ _ _ h
    .exact SeqAt.EqAt.none_str x t _ _ _ _ h
   |none=>
    cases eq_of_beq hv;rw[show decide ((none:K3)=none)=true from dT0 rfl]at h;exact SeqAt.EqAt.same _ _ _ _ _ h
 «strs»:=λk x t v h=>by
  rcases pV h with⟨i,u,rfl,e⟩|⟨y,u,rfl,e⟩|⟨rfl,e⟩
  .exact nomatch e
  .injection e with e1 _
   subst e1;cases v<;>rfl
  .exact nomatch e
def Qw(a b):decide (NK.key a=NK.key b)=decide (a=b):=by
 by_cases h:a=b
 .subst h;simp
 .rw[dF0 h,dF0 λz=>h (NK.key.inj z)]
def A6(a)(b):decide (NK.key a=NK.tup b)=false:=dF0 λz=>nomatch z
def A7(a)(b):decide (NK.tup b=NK.key a)=false:=dF0 λz=>nomatch z
def A8(a b):decide (NK.tup a=NK.tup b)=decide (a=b):=by
 by_cases h:a=b
 .subst h;simp
 .rw[dF0 h,dF0 λz=>h (NK.tup.inj z)]
def TU(h:(mk prog w).is k v=true): ∃x:V,RelV x v/\pS x=true:=by
 rcases pV h with⟨i,t,rfl,rfl⟩|⟨x,t,rfl,rfl⟩|⟨rfl,rfl⟩
 .exact⟨.int i,⟨t,rfl⟩,rfl⟩
 .exact⟨.str x,⟨t,rfl⟩,rfl⟩
 .exact⟨.non,rfl,rfl⟩
def Ew
  (he: ∀k1∈x, ∀k2 u v  Q ,MF (mk prog w) s.heap k1 u->MF (mk prog w) s.heap k2 v->Q (decide (k1=k2)) s->wpAny ↑3 A (eqBool u v) Q E s)
  (hx:MF (mk prog w) s.heap (.tup x) (.ref a)) (hy:MF (mk prog w) s.heap (.tup y) (.ref b)) (h:P (.done (.ret (.bool (decide (x=y))))) s):
  wpAny ↑3 A (Builtin.«tuple.__eq__» ⟨[.ref a,.ref b],[]⟩) P E s:=by
 refine(xL.mp hx).l λ_ oa xs na e W _ S Y=>?_;cases e;refine(xL.mp hy).l λ_ ob ys nb e T _ Z O=>?_;cases e;show wpAny _ _ (isInstance _ _ >>= _) _ _ s;refine wB (ģ (CV hy) isSubtype_tuple_tuple ?_);refine wB (wpAny_tupleItemsOf W S ?_);refine wB (wpAny_tupleItemsOf T Z ?_);refine wB ?_
 refine wpAny_forIn_list _
  (λrest r N=>r.1=none/\N=s/\ ∃I J C o,rest=List.zip C o/\(∀k∈I,k∈x)/\tQ _ s.heap I C/\tQ _ s.heap J o/\decide (I=J)=decide _/\(C.length==o.length)=(xs.size==ys.size))
  _ ?_ ?_ _ _ ⟨rfl,rfl,x,y,_,_,rfl,λk K=>K,Y,O,rfl,by simp⟩
 .rintro⟨u,v⟩ rest r N ⟨hr,rfl,I,J,C,o,H,X,m,c,j,q⟩
  cases I with
  |nil=>rw[wC.mp m]at H;simp at H
  |cons k1 x''=>
   cases J with
   |nil=>rw[wC.mp c]at H;simp at H
   |cons k2 y''=>
    refine(yH.mp m).b λu' G V h1 F=>?_;subst V;refine(yH.mp c).b λv' D ac U B=>?_;subst ac;obtain⟨⟨rfl,rfl⟩,rfl⟩:=H;refine wB (he k1 (X k1 mF0) k2 _ _ _ h1 U ?_);by_cases K:k1=k2
    .subst K;simp only[fT0];refine wP ⟨rfl,rfl,x'',y'',G,D,rfl,λk K=>X k (mO _ K),F,B,?_,by simpa using q⟩;rw[<-j];by_cases L:x''=y''
     .simp[L]
     .simp[L]
    .rw[dF0 K];have hf:decide (x=y)=false:=by rw[<-j];simp[K]
     rw[hf]at h;exact wB (wP (wP (wP h)))
 .rintro⟨r1,r2⟩ N ⟨hr,rfl,I,J,C,o,H,X,m,c,j,q⟩;subst hr;refine wP ?_
  have M:(xs.size==ys.size)=decide (x=y):=by
   rw[<-j, <-q]
   cases I with
   |nil=>
    rw[wC.mp m]
    cases J with
    |nil=>rw[wC.mp c];simp
    |cons k2 y''=>refine(yH.mp c).b λv' D al U B=>?_;subst al;simp
   |cons k1 x''=>
    refine(yH.mp m).b λu' G am h1 F=>?_;subst am
    cases J with
    |nil=>rw[wC.mp c];simp
    |cons k2 y''=>refine(yH.mp c).b λv' D ap U B=>?_;subst ap;simp at H
  show P (.done (.ret (.bool _))) N;rw[M];exact h
theorem JC: ∀{j},AV j<=n-> ∀k∈j,AO k<=n
 |[],_,k,hk=>by simp at hk
 |x::xs,hx,k,hk=>by
  rw[JB]at hx;rcases mC.mp hk with rfl|hk
  .lia
  .exact JC #[0] k hk
theorem TV: ∀ n {A}{E}{s}{x y}{u v}{Q},AO x<=n->A.units+n<cLine->MF (mk prog w) s.heap x u->MF (mk prog w) s.heap y v->Q (decide (x=y)) s->wpAny ↑3 A (eqBool u v) Q E s
 |n,A,E,s,.key a,.key b,u,v,Q,_,_,hx,hy,h=>(mk prog w).eqBool (xX.mp hx) (xX.mp hy) (by rw[Qw]at h;exact h)
 |n,A,E,s,.key a,.tup b,u,v,Q,_,hu,hx,hy,h=>by obtain⟨z,q,fz⟩:=TU (xX.mp hx);refine(xL.mp hy).l λl o _ m M C B c _=>?_;subst M;rw[A6]at h;exact(GV q fz ⟨o,C,B,m,c⟩ #[0]).2.1 prog w E Q h
 |n,A,E,s,.tup a,.key b,u,v,Q,_,hu,hx,hy,h=>by obtain⟨z,q,fz⟩:=TU (xX.mp hy);refine(xL.mp hx).l λl o _ m N C B c _=>?_;subst N;rw[A7]at h;exact(GV q fz ⟨o,C,B,m,c⟩ #[0]).1 prog w E Q h
 |0,A,E,s,.tup a,.tup b,u,v,Q,c,_,hx,hy,h=>by rw[pU]at c;lia
 |n+1,A,E,s,.tup x,.tup y,u,v,Q,c,hu,hx,hy,h=>by
  refine(xL.mp hx).r λa _ _ _ D _=>?_;refine(xL.mp hy).r λb _ _ _ K _=>?_;subst D K;rw[pU]at c;rw[A8]at h;unfold eqBool
  try with_reducible refine û ?_
  by_cases j:(Value.ref a==Value.ref b)=true
  .rw[iP j];have e:=by have:=eq_of_beq j;injection this
   subst e;have:=NK.tup.inj (PL hx hy);subst this;exact wB (ĩ (wP (by simpa using h)))
  .rw[iN0 j]
   refine wB (wpAny_richCompare_same_room (CV hx) (CV hy) F.slot_tuple_eq
    (õ F.slot_tuple_eq (CV hx) F.entry_tuple_eq (Ew (λG k L u v Q I H J=>TV n (JC #[0] G k) #[0] I H J) hx hy (ZB _ rfl (λe=>nomatch e) (ĉ h))) (F.args_tuple_eq_2 _ _)) #[0])
theorem Ah: ∀ n m {A}{E}{s}{x}{u}{Q},AO x<=n->n<m->MF (mk prog w) s.heap x u->Q true s->wpAny ↑3 A (eqIsQuiet m u) Q E s
 |n,m,A,E,s,.key k,u,Q,_,_,hx,h=>by rw[eqIsQuiet_byValue m ((mk prog w).byValue _ _ (xX.mp hx))];exact wP h
 |0,m,A,E,s,.tup ks,u,Q,q,_,hx,h=>by rw[pU]at q;lia
 |n+1,0,A,E,s,.tup ks,u,Q,q,hm,hx,h=>by lia
 |n+1,m+1,A,E,s,.tup ks,u,Q,hdp,hm,hx,h=>by
  refine(xL.mp hx).l λa o _ j O G J q hi=>?_;subst O;have C:s.TypeIs (.ref a) "tuple":=(Z0 o G J)
  rw[pU]at hdp;unfold eqIsQuiet;refine wB (ĺ C F.slot_tuple_eq.lookup ?_);refine wB (ģ C isSubtype_tuple_tuple ?_);refine wB (wpAny_seqItems G q ?_);refine wB ?_;rw[<-Array.forIn_toList];refine wpAny_forIn_list _ (λrest r B=>r.1=none/\B=s/\ ∃left,(∀k∈left,k∈ks)/\tQ _ s.heap left rest) _ ?_ ?_ _ _ ⟨rfl,rfl,ks,λk c=>c,hi⟩
  .rintro v rest r B ⟨D,rfl,left,b,y⟩
   cases left with
   |nil=>rw[wC]at y;cases y
   |cons k left=>
    refine(yH.mp y).b λM N e I H=>?_;cases e;refine wB (Ah n m (JC #[0] k (b k mF0)) #[0] I ?_);exact wP ⟨rfl,rfl,left,λk c=>b k (mO _ c),H⟩
  .rintro⟨L,K⟩ B ⟨D,rfl,_⟩;subst D;exact wP h
end
def pW(prog)(w):HeapKind prog w NK where
 is:=λh k a=>MF (mk prog w) h k (.ref a)/\AO k<=4
 hash:=GW (mk prog w)
 draws:=IY
 room:=λA=>A.units+4<cLine
 inj:=λhx hy=>PL hx.1 hy.1
 keeps:=λx ho hd hs=>⟨TQ (λa o' items n e q=>(hs.2 a λz=>by subst z;rw[ho]at e;cases e;rw[hd]at q;cases q).trans e) x.1,x.2⟩
 pyHash:=λhu hk h=>TR 4 hk.2 hu hk.1 h
 eqBool:=λhu hx hy h=>TV 4 hx.2 hu hx.1 hy.1 h
 quiet:=λhk h=>Ah 4 8 hk.2 ↑4 hk.1 h
noncomputable def DN(P:ś)(w:World)(a:Addr)(xs:List (NK×Addr×Ś)):HO:=
 .ext λh=>↑12<=sizeLine/\(a==sysModules)=false/\ ∃o es b,h.get? a=some o/\o.ExactDict/\o.data=.dict es b/\es.toList=xs.map (entryOfKey (pW P w))/\(xs.map (·.1)).Nodup
end M
end L2
namespace L2
open PySem PySem.Spec PyProof.Rows
def Pn(h:Heap)(e T:Addr)(cls:Ś)(d:Option Addr)(fl:Ś):Prop:=
 ∃a b c j,h.get? e=some a/\a.cls=cls/\a.dict=d/\a.data=.fields b/\b[1]? =some (.ref T)/\T≠e/\h.get? T=some c/\c.data=.fields j/\j[3]? =some fl/\b[2]? =some .none
def A9(h:Heap)(e:Addr)(cls:Ś)(d:Option Addr):Prop:= ∃a b,h.get? e=some a/\a.cls=cls/\a.dict=d/\a.data=.fields b/\b[1]? =some .none/\b[2]? =some .none
structure Mvd(fs:B9)(e T:Addr)(h h':Heap):Prop where
 keep: ∀b o,b≠e->b≠T->b∉fs->h.get? b=some o->h'.get? b=some o
 slot: ∀b o,b≠e->b≠T->h.get? b=some o-> ∃sl,h'.get? b=some {o with slots:=sl}
 there: ∀b o,h.get? b=some o-> ∃o',h'.get? b=some o'
def Mvd.new(a:Mvd fs e T h j)(n:h.get? T'=none)(b:Mvd fs e T' j k):Mvd fs e T h k:=by
 have ne: ∀c o,h.get? c=some o->c≠T':=λc o q z=>by rw[z,n]at q;cases q
 exact⟨λc o j k u q=>b.keep c o j (ne c o q) u (a.keep c o j k u q),λc o j k q=>by obtain⟨sl,s⟩:=a.slot c o j k q;obtain⟨m,v⟩:=b.slot c _ j (ne c o q) s;exact⟨m,v⟩,λc o q=>let ⟨w,s⟩:=a.there c o q;b.there c w s⟩
theorem JD(f)(o):(Obj.mapFields f o).dict=o.dict:=by obtain⟨c,d,a,sl⟩:=o;cases a<;>rfl
section
variable{L:Addr}
def Jv(J:A.frames=some (env::outer))(O:s.heap.FunFrames base (env::outer))(P:env.frame=some L)
  (he:s.heap.get? e=some oe) (hd:oe.data=.fields vs) (hsz:1<vs.size) (h2:vs[2]? =some .none)
  (h: ∀h' N,s.heap.get? N=none->Mvd (MA (env::outer)) e e s.heap h'->Pn h' e N oe.cls oe.dict (rawInt L)->Q () {s with heap:=h'}):
  wpAny M A (do let a <-frameOf env;let y <-entryPlaceOf L hadNext;let b <-EntryCells.newEntry head a .none (rawInt L) .none y;setField (.ref e) 1 b) Q E s:=by
 have F:e∉(env::outer).filterMap (·.frame):=λS=>by obtain⟨_,o,H,I⟩:=O.mem S;rw[he]at H;injection H with H;subst H;exact I vs hd
 refine wB (wpAny_frameOf_fun J O P λc j=>?_);refine wB (wpAny_entryPlaceOf λy D=>?_);unfold EntryCells.newEntry newFields;refine wB (Ą ?_ (D.sizeOk5 _ _ _ _ _));have v:c.get? e=some oe:=(j.2.1 e F).trans he;have m:=hP0 (h:=c) {cls:=.type "traceback",dict:=none,data:=.fields ([head,.ref L,.none,rawInt L,.none]++(if y.isEmpty then List.replicate 6 Value.none else y)).toArray} v;refine ħ m hd hsz ?_;have G:c.objs.size≠e:=Ĕ (â v);have w:=Ĥ hd (·.setIfInBounds 1 (Value.ref c.objs.size));have u:=ö _ m (Ļ w)
 have B:=(ù (c.push {cls:=.type "traceback",dict:=none,data:=.fields ([head,.ref L,.none,rawInt L,.none]++(if y.isEmpty then List.replicate 6 Value.none else y)).toArray})
  (Obj.mapFields (·.setIfInBounds 1 (Value.ref c.objs.size))) (Ne.symm G)).trans (ã c rfl)
 have keep: ∀b o,b≠e->c.get? b=some o->
   ((c.push {cls:=.type "traceback",dict:=none,data:=.fields ([head,.ref L,.none,rawInt L,.none]++(if y.isEmpty then List.replicate 6 Value.none else y)).toArray}).update e (Obj.mapFields (·.setIfInBounds 1 (Value.ref c.objs.size)))).get? b=some o:=
  λb o k C=>by rw[ù _ _ (Ne.symm k)];exact hP0 _ C
 refine h _ c.objs.size ?_ ⟨λb o k _ K C=>keep b o k ((j.2.1 b K).trans C),λb o k _ C=>?_,λb o C=>?_⟩ ?_
 .cases q:s.heap.get? c.objs.size with
  |none=>rfl
  |some o=>
   obtain⟨sl,hs⟩:=j.2.2 _ o q;exact absurd (â hs) (ĝ _)
 .obtain⟨sl,hs⟩:=j.2.2 b o C;exact⟨sl,keep b _ k hs⟩
 .by_cases k:b=e
  .subst k;exact⟨_,u⟩
  .obtain⟨sl,hs⟩:=j.2.2 b o C;exact⟨_,keep b _ k hs⟩
 .exact⟨_,_,_,_,u,Obj.cls_mapFields _ _,JD _ _,w,by simp[hsz],G,B,rfl,by first |(simp;done)|(rcases D with rfl|⟨_,_,_,_,_,_,_,rfl⟩<;>simp),by rw[Array.getElem?_setIfInBounds_ne (by decide)];exact h2⟩
def setT(m:h0.get? T=some oT)(k:oT.data=.fields ts):Mvd (MA (env::outer)) e T h0 (h0.update T (Obj.mapFields (·.setIfInBounds 3 x))):=by
 have a: ∀b,b≠T->(h0.update T (Obj.mapFields (·.setIfInBounds 3 x))).get? b=h0.get? b:=λb j=>ù _ _ (Ne.symm j);refine⟨λb o _ c _ j=>(a b c).trans j,λb o _ c j=>⟨o.slots,(a b c).trans j⟩,λb o j=>?_⟩;by_cases c:b=T
 .subst c;exact⟨_,ö _ m (Ļ (Ĥ k _))⟩
 .exact⟨o,(a b c).trans j⟩
def NN(F:A.frames=some (env::outer))(hl:s.heap.FunFrames base (env::outer))(S:env.frame=some L)(a:Pn s.heap e T cls d .none)
  (h: ∀h' y,s.heap.get? y=none->Mvd (MA (env::outer)) e T s.heap h'->Pn h' e y cls d (rawInt L)->Q () {s with heap:=h'}):wpAny M A (noteFrame (.ref e) env) Q E s:=by
 obtain⟨oe,P,oT,X,N,rfl,rfl,J,K,H,D,u,U,Y⟩:=a;unfold noteFrame;simp only[S];refine wB (ē N J K ?_);rw[iP (by simp)];refine wB (ē D u U ?_);rw[iN0 (by simp[rawInt])];refine wB (ħ D u (Ľ.mp U).1 ?_);have C:=setT (env:=env) (outer:=outer) (e:=e) (x:=Value.none) D u;have k: ∀b,b≠T->(s.heap.update T (Obj.mapFields (·.setIfInBounds 3 Value.none))).get? b=s.heap.get? b:=λb a=>ù _ _ (Ne.symm a);have j: ∀b o,s.heap.get? b=some o->(∀P,o.data≠.fields P)->b≠T:=λb o a v q=>by rw[q,D]at a;injection a with a;subst a;exact v X u
 refine Jv F (hl.of_keeps λb o a v=>⟨o,(k b (j b o a v)).trans a,rfl⟩) S ((k e (Ne.symm H)).trans N) J (Ľ.mp K).1 Y
  λh' y n m f=>h h' y ?_ ⟨λb o c w B a=>m.keep b o c c B (C.keep b o c w B a),λb o c w a=>?_,λb o a=>?_⟩ f
 .cases q:s.heap.get? y with
  |none=>rfl
  |some o=>
   obtain⟨O,hs⟩:=C.there _ o q;have W:(s.heap.update T _).get? y=none:=n;rw[W]at hs;cases hs
 .obtain⟨sl,I⟩:=C.slot b o c w a;obtain⟨G,Z⟩:=m.slot b _ c c I;exact⟨G,Z⟩
 .obtain⟨O,I⟩:=C.there b o a;exact m.there b O I
def iO(y:Pn s.heap e T cls d fl)(h: ∀h',Mvd (MA (env::outer)) e T s.heap h'->Pn h' e T cls d .none->Q () {s with heap:=h'}):wpAny M A (setFlight (.ref e) none) Q E s:=by obtain⟨u,q,B,C,m,rfl,rfl,o,k,c,j,a,w,v⟩:=y;have b:=(Ľ.mp w).1;refine wB (ē m o k ?_);rw[iP (by simp)];refine ħ j a b (h _ (setT j a) ?_);exact⟨u,q,_,_,(ù _ _ c).trans m,rfl,rfl,o,k,c,ö _ j (Ļ (Ĥ a _)),Ĥ a _,by simp[b],v⟩
def TX(b:A.frames=some (env::outer))(u:s.heap.FunFrames base (env::outer))(k:env.frame=some L)(w:A9 s.heap e cls d)
  (h: ∀h' j,s.heap.get? j=none->Mvd (MA (env::outer)) e e s.heap h'->Pn h' e j cls d .none->Q () {s with heap:=h'}):wpAny M A (leaving env (.ref e)) Q E s:=by
 refine wB ((by
   refine w.j λC B D=>D.g λo F G q c a=>?_;subst F;subst G;unfold noteFrame;simp only[k];refine wB (ē o q c ?_);exact Jv b u k o q (Ľ.mp c).1 a (λc j n m f=>iO f λa v y=>h a j n (m.new n v) y)))
def XG(a:A.frames=some (env::outer))(k:s.heap.FunFrames base (env::outer))(b:env.frame=some L)(q:Pn s.heap e T cls d .none)
  (h: ∀h' j,s.heap.get? j=none->Mvd (MA (env::outer)) e T s.heap h'->Pn h' e j cls d .none->Q () {s with heap:=h'}):wpAny M A (leaving env (.ref e)) Q E s:=by
 refine wB (NN a k b q λv j n m f=>iO f λc o u=>h c j n (m.new n o) u)
end
def ObjOk.here(x:ObjOk P w H h a o): ∃ob,h.get? a=some ob:=by
 cases o with
 |lst xs=>obtain⟨_,_,_,_,e⟩:=x;exact⟨_,e⟩
 |tup xs=>obtain⟨_,_,_,ob,e,_⟩:=x;exact⟨_,e⟩
 |dK kvs=>obtain⟨_,_,_,_,o,_,_,e,_⟩:=x;exact⟨_,e⟩
 |dT kvs=>obtain⟨_,_,_,_,o,_,_,e,_⟩:=x;exact⟨_,e⟩
 |set S n=>refine x.r λo _ _ _ e _=>?_;exact⟨_,e⟩
 |ins C dx fs=>refine x.h λ_ _ _ e _=>?_;exact⟨_,e⟩
 |own y=>exact x
 |xd fs=>refine x.a λ_ b _=>?_;obtain ⟨_,_,_,e,_⟩:=b;exact⟨_,e⟩
 |rng lo hi=>refine x.i λ_ _ _ e=>?_;exact⟨_,e⟩
 |frz ob u=>obtain⟨e,_⟩:=x;exact⟨_,e⟩
 |tbl ps=>refine x.a λ_ e _=>?_;exact⟨_,e⟩
 |met f y=>exact⟨_,x⟩
 |ext φ=>refine x.f λ_ e _=>?_;exact e
def HOk.none_of(x:HOk P w H h)(n:h.get? a=none):H a=none:=by
 cases q:H a with
 |none=>rfl
 |some u=>
  obtain⟨ob,e⟩:=(x a u q).here;rw[n]at e;cases e
section
def Inv.older(J:↑1)(a:X.ex=[])(n:s.heap.get? b=none):X.s₀.heap.get? b=none:=by
 cases q:X.s₀.heap.get? b with
 |none=>rfl
 |some o=>
  obtain⟨c,e⟩:=J.base.there b o q (by rw[a];simp);rw[n]at e;cases e
def Inv.moved(J:↑1)(F:X.ex=[])(m:Mvd (MA X.stack) e T s.heap h')(ne:X.s₀.heap.get? e=none)(L:X.s₀.heap.get? T=none)(M:H e=none)(I:H T=none):
  Un X.fs [] X.H₀ H X.s₀.heap h'/\HOk X.prog X.w H h':=by
 have a: ∀b:Addr,b∉X.ex:=λb=>by rw[F];simp
 have A: ∀b o,X.s₀.heap.get? b=some o->b≠e:=λb o q z=>by rw[z,ne]at q;cases q
 have k: ∀b o,X.s₀.heap.get? b=some o->b≠T:=λb o q z=>by rw[z,L]at q;cases q
 refine⟨⟨λb o q n B _=>?_,λb o q n B _=>?_,λb o q n _=>J.base.free b o q n (a b),λb o q _=>?_,J.base.tups,J.base.frzs,J.base.tbls⟩,λb u q=>(J.hok b u q).stay (λc v C r=>?_) (λ_ q=>q) (λ_ _ q=>q) λ_ _ _ q=>q⟩
 .refine m.keep b o (A b o q) (k b o q) (λz=>?_) (J.base.keep b o q n B (a b));rcases mC.mp (J.stkSub b z)with z|z
  .exact absurd z (ä (ê (â q) J.ok.above))
  .exact B z
 .obtain⟨sl,E⟩:=J.base.slot b o q n B (a b);obtain⟨G,K⟩:=m.slot b _ (A b o q) (k b o q) E;exact⟨G,K⟩
 .obtain⟨N,E⟩:=J.base.there b o q (a b);exact m.there b N E
 .have D: ∃z,H c=some z:=by
   rcases C with rfl|C
   .exact⟨_,q⟩
   .exact⟨_,C⟩
  obtain⟨z,j⟩:=D;refine m.keep c v (λy=>by rw[y,M]at j;cases j) (λy=>by rw[y,I]at j;cases j) (λy=>?_) r;rw[J.stkFree c y]at j;cases j
end
def Ij(P:ś)(w:World):Ef:=λa H s E x b=> ∃e T C d H',x=.ref e/\b.os=s.os/\AllBare b.gens/\Un (MA a) [] H H' s.heap b.heap/\HOk P w H' b.heap/\Pn b.heap e T (.ref C) d .none/\
 s.heap.get? e=none/\s.heap.get? T=none/\H' e=none/\H' T=none/\E (.ref C) d H'
structure XOk(X:Cx)(E:XK):Prop where
 pass:EU (Ij X.prog X.w) X E
 born: ∀(pins:L0)(σ:St)(H:Hp)(s:ř)(e C:Addr)(d:Option Addr),Inv X pins σ H s->A9 s.heap e (.ref C) d->X.s₀.heap.get? e=none->H e=none->E (.ref C) d H->X.xe (.ref e) s
section
variable{K:O0}
end
noncomputable abbrev EY:List Value:=[.type "ValueError",.type "Exception",.type "BaseException",.type "object"]
noncomputable def qn:List Str:=["__class__","__getattribute__","__getattr__","__setattr__","place","ring"]
def EZ(h:Heap)(C M:Addr):Prop:=
 ∃nm q N bs s u sub m a c v k y o j w b,h.get? C=some (excClassObj nm q C N bs (.ref M::EY) s u sub m a c v k y o j w)/\h.Ns N b/\(∀n∈qn,b n=none)/\
  ∃nm q N bs s u sub m a c v k y o j w b,h.get? M=some (excClassObj nm q M N bs EY s u sub m a c v k y o j w)/\h.Ns N b/\(∀n∈qn,b n=none)
section
variable{os:OsState}
def tS(O:EZ h C M)(a:Q ((Value.ref C::.ref M::EY).contains base) ⟨h,g,d,t,os⟩):wpAny Mo A (isSubtype (.ref C) base) Q E ⟨h,g,d,t,os⟩:=by obtain⟨nm,q,N,bs,v,w,sub,s,b,k,D,o,B,u,m,y,j,c,_⟩:=O;exact wpAny_isSubtype_exc c a
def PM(O:EZ h C M)(k:n∈qn)(o:typeLookup (.type "ValueError") n=pure y)(u:Q y ⟨h,g,d,t,os⟩):wpAny Mo A (typeLookup (.ref C) n) Q E ⟨h,g,d,t,os⟩:=by
 obtain⟨nm,q,N,bs,L,P,sub,J,v,G,U,I,T,K,H,S,D,m,s,c,_,_,_,_,_,_,_,_,_,_,_,_,_,_,_,_,B,w,j,b⟩:=O;have a:lookupAlong EY n=pure y:=by rw[typeLookup_eq,F.excBase_ValueError.mroIs]at o;exact o
 rw[typeLookup_eq];refine wB (wpAny_mroOf_exc m ?_);rw[lookupAlong_cons];refine wB (wpAny_classOwn_exc m s ?_);rw[c n k,lookupAlong_cons];refine wB (wpAny_classOwn_exc w j ?_);rw[b n k,a];exact wP u
def Jw(O:EZ h C M): ∃o,h.get? C=some o/\o.cls=.type "type"/\ ∃j,o.data=.cls j:=by obtain⟨_,_,_,_,_,_,_,_,_,_,_,_,_,_,_,_,_,a,_⟩:=O;exact⟨_,a,rfl,_,rfl⟩
end
def qn1:("__class__":Str)∈qn:=.head _
def qn2:("__getattribute__":Str)∈qn:=.tail _ (.head _)
def qn3:("__getattr__":Str)∈qn:=.tail _ t1M
theorem Jx:typeLookup (.type "ValueError") "__class__"=pure (some (.builtin "object.__class__")):=by rw[typeLookup_type,ļ];kernel_rfl
section
variable{os:OsState}
def XH(O:EZ h C M)(j:h.get? a=some o)(c:o.cls=.ref C)(m:R (.ok (.ret (.ref C))) ⟨h,g,d,t,os⟩):
  codeAny ↑3 A (.call (.builtin "getset_descriptor.__get__") ⟨[.builtin "object.__class__",.ref a,.ref C],[]⟩) R ⟨h,g,d,t,os⟩:=by
 have b:(⟨h,g,d,t,os⟩:ř).TypeIs (.builtin "object.__class__") "getset_descriptor":=F.typeOf_object_class;have k:(Value.ref C::.ref M::EY).contains (.type (".".intercalate ("object.__class__".cutAt '.').dropLast))=true:=by rw[F.owner_object_class];simp[Ĭ]
 refine codeAny_call_builtin F.slot_gs_get.plain F.entry_gs_get (F.slot_gs_get.check _ _ _ _ _ _ _ _ b (F.args_gs_get _ _ _) ?_)
 repeat (any_goals (first |assumption|(with_reducible refine Đ j ?_;rw[c])|(with_reducible refine tS O ?_;rw[k])|wp_step))
 refine⟨Code.quiet_builtin _ ↑10,đ F.entry_object_class ?_⟩
 repeat (any_goals (first |assumption|(with_reducible refine Đ j ?_;rw[c])|wp_step))
def Ey(O:EZ h C M)(m:h.get? a=some o)(c:o.cls=.ref C)(k:Q () ⟨h,g,d,t,os⟩):wpAny Mo A (checkBuiltinCall "BaseException.__getattribute__" ⟨[.ref a,nameV],[]⟩) Q E ⟨h,g,d,t,os⟩:=by
 have b:builtinKind "BaseException.__getattribute__"=some .slot:=by decide+kernel
 have hs:splitId "BaseException.__getattribute__"=some ("BaseException","__getattribute__"):=by decide+kernel
 have j:(Value.ref C::.ref M::EY).contains (.type "BaseException")=true:=by simp[Ĭ]
 have q:=F.args_bexc_ga (.ref a) nameV;simp only[checkBuiltinCall,b,hs];refine wB ?_;unfold isInstance
 repeat (first |(with_reducible refine Đ m ?_;rw[c])|(with_reducible refine tS O ?_;rw[j])|wp_step)
 exact k
def PN(O:EZ h C M)(c:h.get? a=some o)(b:o.cls=.ref C)(s:Q (.done (.ret (.ref C))) ⟨h,g,d,t,os⟩):
  wpAny ↑3 A (Builtin.«object.__getattribute__» ⟨[.ref a,.str "__class__" tk],[]⟩) Q E ⟨h,g,d,t,os⟩:=by
 have j:(⟨h,g,d,t,os⟩:ř).TypeIs (.builtin "object.__class__") "getset_descriptor":=F.typeOf_object_class;have q:=F.typeOf_object_class;have m:=F.slot_gs_get.lookup;have k:=F.slot_gs_set.lookup
 repeat (any_goals (first |assumption|(with_reducible refine Đ c ?_;rw[b])|with_reducible refine PM O qn1 Jx ?_|wp_step))
 refine XH O c b ?_
 (repeat (any_goals (first |assumption|wp_step)))
def Ez{b:Bool}(O:EZ h C M)(k:h.get? a=some o)(j:o.cls=.ref C)(u:Q (.ref C) ⟨h,g,d,t,os⟩):
  wpAny ↑3 A (getAttrBy (.ref a) (.str "__class__" tk) b expr) Q E ⟨h,g,d,t,os⟩:=by
 have s:=F.attrBase_ValueError.ga.bind (.ref a);have m:(expr&&onTheHeap (Value.builtin "BaseException.__getattribute__"))=false:=by cases expr<;>rfl
 have c:(Value.builtin "BaseException.__getattribute__"==Value.builtin "object.__getattribute__")=false:=by decide+kernel
 have q:(onTheHeap (Value.ref C)&&Value.builtin "BaseException.__getattribute__"==Value.builtin "object.__getattribute__")=false:=by rw[c];rfl
 repeat (any_goals (first |assumption|(with_reducible refine Đ k ?_;rw[j])|with_reducible refine PM O qn2 (show typeLookup (.type "ValueError") "__getattribute__"=pure (some (.builtin "BaseException.__getattribute__")) by rw[typeLookup_type,ļ];kernel_rfl) ?_|with_reducible refine PM O qn3 (show typeLookup (.type "ValueError") "__getattr__"=pure none by rw[typeLookup_type,ļ];kernel_rfl) ?_|wp_step))
 refine (codeAny_call_builtin F.attrBase_ValueError.ga.plain F.entry_bexc_ga (Ey O k j (PN O k j ?_)))
 (repeat (any_goals (first |assumption|wp_step)))
def UA(O:EZ h C M)(c:h.get? a=some o)(b:o.cls=.ref C)(j:Q (some (.ref C)) ⟨h,g,d,t+1,os⟩):wpAny ↑3 A (getAttr? (.ref a) "__class__") Q E ⟨h,g,d,t,os⟩:=by
 unfold getAttr? getAttrBy?
 repeat (any_goals (first |assumption|with_reducible apply Ez O c b|wp_step))
def Qx(O:EZ h C M)(m:h.get? a=some o)(k:o.cls=.ref C)(u:h.get? D=some {cls:=.type "type",dict:=dD,data:=.cls cD,slots:=sD})(s:h.get? C=some oC)(c:oC.cls=.type "type")(b: ∃q,oC.data=.cls q)(j:(Value.ref C::.ref M::EY).contains (.ref D)=false)(F:Q (.done (.ret (.bool false))) ⟨h,g,d,t+1,os⟩):
  wpAny ↑3 A (Builtin.«isinstance.nested» ⟨[.ref a,.ref D,rawInt 0],[]⟩) Q E ⟨h,g,d,t,os⟩:=by
 have v:(Value.ref C==Value.ref D)=false:=by rw[Ĭ,Bool.or_eq_false_iff]at j;have:=j.1;rw[ğ]at this ⊢;exact this.symm
 obtain⟨q,b⟩:=b;obtain⟨y,H,B,G⟩:=oC;dsimp only at c b;subst c b
 repeat (any_goals (first |assumption|(with_reducible refine Đ m ?_;rw[k])|with_reducible refine Đ u ?_|with_reducible refine Đ s ?_|(with_reducible refine tS O ?_;rw[j])|with_reducible apply UA O m k|wp_step))
def Fa(c:h.get? a=some o)(b:o.cls=.ref C)(j:Q (.done (.ret (.bool true))) ⟨h,g,d,t,os⟩):
  wpAny ↑3 A (Builtin.«isinstance.nested» ⟨[.ref a,.ref C,rawInt 0],[]⟩) Q E ⟨h,g,d,t,os⟩:=by
 repeat (any_goals (first |assumption|(with_reducible refine Đ c ?_;rw[b])|wp_step))
def Qy(O:EZ h C M)(k:h.get? a=some o)(b:o.cls=.ref C)(j:typeOf (.type T)=pure (.type "type"))(c:(Value.ref C::.ref M::EY).contains (.type T)=true)(q:Q (.done (.ret (.bool true))) ⟨h,g,d,t,os⟩):
  wpAny ↑3 A (Builtin.«isinstance.nested» ⟨[.ref a,.type T,rawInt 0],[]⟩) Q E ⟨h,g,d,t,os⟩:=by
 have m:(Value.ref C==Value.type T)=false:=rfl
 repeat (any_goals (first |assumption|(with_reducible refine Đ k ?_;rw[b])|(with_reducible refine tS O ?_;rw[c])|wp_step))
end
end L2
namespace L2
namespace M
open PySem PySem.Spec PyProof.Rows
inductive MV where
 |non|bl (b:Bool)|int (i:Int)|str (x:Db)|tup (ds:List MV)|scr (ds:List MV)|loc (l:Nat)|typ (n:String)|obj (c:Str) (ns:D0) (ds:List MV)
abbrev Q0:=List MV
abbrev R0:=Option MV
abbrev V0:=List (Nat×List MV)
abbrev Y0:=List (MV×MV)
instance:Inhabited MV:=⟨.non⟩
inductive MO where
 |lst (ds:Q0)|dic (kvs:Y0)|ins (c:Str) (fs:List (Str×MV))|rcd (c:Str) (fs:List (Str×MV))|fdc (kvs:Y0)
abbrev Sto:=List MO
def SqF(K:O0)(H:Hp)(a:Addr)(xs:List V):Prop:=
 (∃o,H a=some (.frz o (.lst xs)))\/
  ∃(o:Obj)(b:B0)(n:Nat),K.lookup a=some o/\o.cls=.type "list"/\o.dict=none/\o.data=.seq b n/\b.size<=sizeLine/\Vals xs b.toList
def SqF.l{K:O0}(h:SqF K H a xs):SqL K H a xs:=by
 rcases h with⟨o,h⟩|h
 .exact .inl (.inr ⟨o,h⟩)
 .exact .inr h
mutual
def Den(K:O0)(α:B9)(H:Hp):MV->V->Prop
 |.non,v=>v=.non
 |.bl b,v=>v=.bl b
 |.int i,v=>v=.int i
 |.str x,v=>v=.str (gO x)
 |.tup ds,v=> ∃a vs,v=.ref a/\SqT K H a vs/\DenL K α H ds vs
 |.scr ds,v=> ∃a vs,v=.ref a/\SqF K H a vs/\DenL K α H ds vs
 |.loc l,v=> ∃a,v=.ref a/\α[l]? =some a
 |.typ n,v=>v=.ty n
 |.obj c ns ds,v=> ∃a C j vs o,v=.ref a/\H a=some (.frz o (.ins C j (ns.zip vs)))/\PySem.W.nsIn K mainGlobals c=some (some (.ref C))/\(PySem.W.clsIn K C).map (·.name)=some c/\ns.length=vs.length/\DenL K α H ds vs
def DenL(K:O0)(α:B9)(H:Hp):List MV->List V->Prop
 |[],vs=>vs=[]
 |d::ds,vs=> ∃v r,vs=v::r/\Den K α H d v/\DenL K α H ds r
end
structure Ex0(α:B9)(H:Hp)(α':B9)(H':Hp):Prop where
 pre: ∃t,α'=α++t
 tup: ∀b xs,H b=some (.tup xs)->H' b=some (.tup xs)
 frz: ∀b o u,H b=some (.frz o u)->H' b=some (.frz o u)
structure Ext(α:B9)(H:Hp)(α':B9)(H':Hp):Prop extends Ex0 α H α' H' where
 new: ∀b∈α',b∈α\/H b=none
 keep: ∀b o,H b=some o->b∉α->H' b=some o
 has: ∀b o,H b=some o-> ∃o',H' b=some o'
section
variable{K:O0}{α α':B9}{H H':Hp}
def Ext.refl(α)(H):Ext α H α H:=⟨⟨⟨[],by simp⟩,λ_ _ h=>h,λ_ _ _ h=>h⟩,λb h=>.inl h,λ_ _ h _=>h,λ_ o h=>⟨o,h⟩⟩
def Ex0.grow(α t)(H):Ex0 α H (α++t) H:=⟨⟨t,rfl⟩,λ_ _ h=>h,λ_ _ _ h=>h⟩
def Ext.free(x:(Ext α H α' H'))(h:H' b=none):H b=none:=by
 cases e:H b with
 |none=>rfl
 |some o=>obtain⟨a,h'⟩:=x.has b o e;rw[h]at h';cases h'
def Ext.out(x:(Ext α H α' H'))(h:H b=some o)(n:b∉α):b∉α':=λz=>by
 rcases x.new b z with z|z
 .exact n z
 .rw[h]at z;cases z
def Ext.trans(x:(Ext α H α' H'))(y:Ext α' H' α'' H''):Ext α H α'' H'' where
 pre:=by obtain⟨t,rfl⟩:=x.pre;obtain⟨u,rfl⟩:=y.pre;exact⟨_,by rw[aA]⟩
 new:=λb h=>(y.new b h).elim (x.new b) λz=>.inr (x.free z)
 keep:=λb o h n=>y.keep b o (x.keep b o h n) (x.out h n)
 has:=λb o h=>let ⟨o',h'⟩:=x.has b o h;y.has b o' h'
 tup:=λb xs h=>y.tup b xs (x.tup b xs h)
 frz:=λb o u h=>y.frz b o u (x.frz b o u h)
def Ex0.at(x:(Ex0 α H α' H')){l:Nat}(h:α[l]? =some a):α'[l]? =some a:=by obtain⟨t,rfl⟩:=x.pre;rw[è (gS.mp h).1];exact h
def Ex0.sqT(x:(Ex0 α H α' H'))(q:SqT K H a vs):SqT K H' a vs:=by
 rcases q with(q|⟨o,q⟩)|q
 .exact .inl (.inl (x.tup a vs q))
 .exact .inl (.inr ⟨o,x.frz a o _ q⟩)
 .exact .inr q
def Ex0.sqF(x:(Ex0 α H α' H'))(q:SqF K H a vs):SqF K H' a vs:=by
 rcases q with⟨o,q⟩|q
 .exact .inl ⟨o,x.frz a o _ q⟩
 .exact .inr q
mutual
theorem Den.ex0(x:(Ex0 α H α' H')): ∀{d:MV}{v:V},Den K α H d v->Den K α' H' d v
 |.non,_,q=>by unfold Den at q ⊢; exact q
 |.bl _,_,q=>by unfold Den at q ⊢; exact q
 |.int _,_,q=>by unfold Den at q ⊢; exact q
 |.str _,_,q=>by unfold Den at q ⊢; exact q
 |.typ _,_,q=>by unfold Den at q ⊢; exact q
 |.obj c ns ds,_,q=>by unfold Den at q ⊢;obtain⟨a,C,m,vs,o,e,h,b,k,j,l⟩:=q;exact⟨a,C,m,vs,o,e,x.frz a _ _ h,b,k,j,DenL.ex0 x l⟩
 |.loc _,_,q=>by unfold Den at q ⊢;obtain⟨a,e,h⟩:=q;exact⟨a,e,x.at h⟩
 |.tup ds,_,q=>by unfold Den at q ⊢;obtain⟨a,vs,e,s,l⟩:=q;exact⟨a,vs,e,x.sqT s,DenL.ex0 x l⟩
 |.scr ds,_,q=>by unfold Den at q ⊢;obtain⟨a,vs,e,s,l⟩:=q;exact⟨a,vs,e,x.sqF s,DenL.ex0 x l⟩
theorem DenL.ex0(x:(Ex0 α H α' H')): ∀{ds:Q0}{vs:List V},DenL K α H ds vs->DenL K α' H' ds vs
 |[],_,q=>by unfold DenL at q ⊢; exact q
 |d::ds,_,q=>by unfold DenL at q ⊢;obtain⟨v,r,e,a,l⟩:=q;exact⟨v,r,e,Den.ex0 x a,DenL.ex0 x l⟩
end
def Den.ext(x:(Ext α H α' H'))(q:Den K α H d v):Den K α' H' d v:=q.ex0 x.toEx0
def DenL.ext(x:(Ext α H α' H'))(q:DenL K α H d v):DenL K α' H' d v:=q.ex0 x.toEx0
theorem qZ:Den K α H .non .non:=by unfold Den;rfl
theorem xI(b):Den K α H (.bl b) (.bl b):=by unfold Den;rfl
theorem yQ(i):Den K α H (.int i) (.int i):=by unfold Den;rfl
theorem eA(x):Den K α H (.str x) (.str (gO x)):=by unfold Den;rfl
theorem Ai(n):Den K α H (.typ n) (.ty n):=by unfold Den;rfl
def rA(s:SqT K H a vs)(l:(DenL K α H ds vs)):Den K α H (.tup ds) (.ref a):=by unfold Den;exact ZC a vs rfl s l
def Aj(s:SqF K H a vs)(l:(DenL K α H ds vs)):Den K α H (.scr ds) (.ref a):=by unfold Den;exact ZC a vs rfl s l
def vM(h:α[l]? =some a):Den K α H (.loc l) (.ref a):=by unfold Den;exact⟨a,rfl,h⟩
def gP(d:Den K α H .non v):v=.non:=by unfold Den at d;exact d
def eV(d:Den K α H (.bl b) v):v=.bl b:=by unfold Den at d;exact d
def yI(d:Den K α H (.int i) v):v=.int i:=by unfold Den at d;exact d
def yX(d:Den K α H (.str x) v):v=.str (gO x):=by unfold Den at d;exact d
def Ak(h:H a=some (.frz o (.ins C dx (ns.zip vs))))(j:PySem.W.nsIn K mainGlobals c=some (some (.ref C)))(b:(PySem.W.clsIn K C).map (·.name)=some c)(k:ns.length=(vs.length))(l:(DenL K α H ds vs)):Den K α H (.obj c ns ds) (.ref a):=by unfold Den;exact Zp a C dx vs o ⟨rfl,h,j,b,k,l⟩
def gQ(d:Den K α H (.obj c ns ds) v): ∃a C j vs o,v=.ref a/\H a=some (.frz o (.ins C j (ns.zip vs)))/\PySem.W.nsIn K mainGlobals c=some (some (.ref C))/\(PySem.W.clsIn K C).map (·.name)=some c/\ns.length=(vs.length)/\DenL K α H ds vs:=by unfold Den at d;exact d
def cF(d:Den K α H (.typ n) v):v=.ty n:=by unfold Den at d;exact d
def yN(d:Den K α H (.tup ds) v): ∃a vs,v=.ref a/\SqT K H a vs/\DenL K α H ds vs:=by unfold Den at d;exact d
def gR(d:Den K α H (.scr ds) v): ∃a vs,v=.ref a/\SqF K H a vs/\DenL K α H ds vs:=by unfold Den at d;exact d
def hZ(d:Den K α H (.loc l) v): ∃a,v=.ref a/\α[l]? =some a:=by unfold Den at d;exact d
theorem yA:DenL K α H [] []:=by unfold DenL;rfl
def zV(a:Den K α H d v)(l:(DenL K α H ds vs)):DenL K α H (d::ds) (v::vs):=by unfold DenL;exact ZC v vs rfl a l
def DenL.uncons(l:DenL K α H (d::ds) vs): ∃v r,vs=v::r/\Den K α H d v/\DenL K α H ds r:=by unfold DenL at l;exact l
def DenL.isnil(l:DenL K α H [] vs):vs=[]:=by unfold DenL at l;exact l
theorem DenL.length: ∀{ds}{vs},DenL K α H ds vs->(vs.length)=↑13
 |[],_,q=>by rw[q.isnil];rfl
 |d::ds,_,q=>by refine q.uncons.b λv r a _ l=>?_;subst a;rw[lC0,lC0,DenL.length l]
theorem DenL.append: ∀{ds es}{vs j},DenL K α H ds vs->DenL K α H es j->DenL K α H (ds++es) (vs++j)
 |[],_,_,_,q,l=>by rw[q.isnil];exact l
 |d::ds,_,_,_,q,l=>by refine q.uncons.b λv r b a k=>?_;subst b;exact zV a (DenL.append k l)
theorem DenL.drop: ∀{ds}{vs} n ,DenL K α H ds vs->DenL K α H (ds.drop n) (vs.drop n)
 |_,_,0,q=>q
 |[],_,n+1,q=>by rw[q.isnil];exact yA
 |d::ds,_,n+1,q=>by refine q.uncons.b λv r a _ l=>?_;subst a;exact DenL.drop n l
theorem DenL.take: ∀{ds}{vs} n ,DenL K α H ds vs->DenL K α H (ds.take n) (vs.take n)
 |_,_,0,q=>yA
 |[],_,n+1,q=>by rw[q.isnil];exact yA
 |d::ds,_,n+1,q=>by refine q.uncons.b λv r b a l=>?_;subst b;exact zV a (DenL.take n l)
theorem DenL.reverse: ∀{ds}{vs},DenL K α H ds vs->DenL K α H ds.reverse vs.reverse
 |[],_,q=>by rw[q.isnil];exact yA
 |d::ds,_,q=>by refine q.uncons.b λv r b a l=>?_;subst b;rw[reverse_cons,reverse_cons];exact(DenL.reverse l).append (zV a yA)
theorem DenL.set(a:Den K α H d v): ∀{ds}{vs} n ,DenL K α H ds vs->DenL K α H (ds.set n d) (vs.set n v)
 |[],_,_,q=>by rw[q.isnil];exact yA
 |e::ds,_,0,q=>by refine q.uncons.b λk r b j l=>?_;subst b;exact zV a l
 |e::ds,_,n+1,q=>by refine q.uncons.b λk r m j l=>?_;subst m;exact zV j (DenL.set a n l)
theorem DenL.get: ∀{ds}{vs}{i:Nat}{v},DenL K α H ds vs->vs[i]? =some v-> ∃d,ds[i]? =some d/\Den K α H d v
 |[],_,_,_,q,e=>by rw[q.isnil]at e;simp at e
 |d::ds,_,0,_,q,e=>by refine q.uncons.b λv r k a l=>?_;subst k;simp at e;subst e;exact⟨d,rfl,a⟩
 |d::ds,_,i+1,_,q,e=>by refine q.uncons.b λv r m a l=>?_;subst m;refine(DenL.get l (by simpa using e)).a λj c b=>?_;exact⟨j,by simpa using c,b⟩
def DenL.at{i:Nat}(q:(DenL K α H ds vs))(e:ds[i]? =some d): ∃v,vs[i]? =some v/\Den K α H d v:=by
 have b:i<vs.length:=by rw[q.length];exact((gS.mp e).1)
 refine(q.get (gE b)).a λj a c=>?_;rw[e]at a;cases a;exact Z0 _ (gE b) c
def DenL.cut(q:(DenL K α H ds vs))(lo hi):DenL K α H (jA ds lo hi) (Eh vs lo hi):=by unfold jA Eh;rw[q.length];exact(q.drop _).take _
theorem pX: ∀(ns:Za),DenL K α H (ns.map MV.int) (ns.map V.int)
 |[]=>yA
 |b::bs=>zV (yQ b) (pX bs)
end
structure Gm where
 K:PySem.W.Frag
 mg:Str->Option Ś
 P:ś
 w:World
abbrev _root_.L2.Cx.g(X:Cx):Gm:=⟨X.K,X.mg,X.prog,X.w⟩
inductive DenF(K:O0)(α:B9)(H:Hp):List (Str×MV)->List (Str×V)->Prop
 |nil:DenF K α H [] []
 |cons {x:Str} {d:MV} {v:V} {fs gs}:Den K α H d v->DenF K α H fs gs->DenF K α H ((x,d)::fs) ((x,v)::gs)
def DenF.ex0{K:O0}(x:(Ex0 α H α' H')): ∀{fs gs},DenF K α H fs gs->DenF K α' H' fs gs:=λb=>by
 induction b with
 |nil=>exact .nil
 |cons a l ih=>exact .cons (a.ex0 x) (ih)
def KeyD:MV->Key->Prop
 |.int i,k=>k=.inl i
 |.str x,k=>k=.inr (gO x)
 |_,_=>False
inductive DenK(K:O0)(α:B9)(H:Hp):List (MV×MV)->List (Key×V)->Prop
 |nil:DenK K α H [] []
 |cons {k:MV} {k':Key} {d:MV} {v:V} {fs gs}:KeyD k k'->Den K α H d v->DenK K α H fs gs->DenK K α H ((k,d)::fs) ((k',v)::gs)
def DenK.ex0{K:O0}(x:(Ex0 α H α' H')): ∀{fs gs},DenK K α H fs gs->DenK K α' H' fs gs:=λb=>by
 induction b with
 |nil=>exact .nil
 |cons k a l ih=>exact .cons k (a.ex0 x) (ih)
mutual
def xR:MV->Option NK
 |.non=>some (.key none)
 |.int i=>some (.key (some (.inl i)))
 |.str x=>some (.key (some (.inr (gO x))))
 |.tup ds=>(kP ds).map .tup
 |_=>none
def kP:List MV->Option (List NK)
 |[]=>some []
 |d::ds=>(xR d).bind λk=>(kP ds).map (k::·)
end
inductive DenN(K:O0)(α:B9)(H:Hp):List (MV×MV)->List (NK×Addr×Ś)->Prop
 |nil:DenN K α H [] []
 |cons {k:MV} {nk:NK} {a:Addr} {d:MV} {v:V} {u:Ś} {fs xs}:xR k=some nk->AO nk<=4->Den K α H k (.ref a)->Den K α H d v->RelV v u->DenN K α H fs xs->DenN K α H ((k,d)::fs) ((nk,a,u)::xs)
def DenN.ex0{K:O0}(x:(Ex0 α H α' H')): ∀{fs xs},DenN K α H fs xs->DenN K α' H' fs xs:=λb=>by
 induction b with
 |nil=>exact .nil
 |cons k e a d r l ih=>exact .cons k e (a.ex0 x) (d.ex0 x) r (ih)
def ObD(g:Gm)(α:B9)(H:Hp)(a:Addr):MO->Prop
 |.lst ds=> ∃vs,H a=some (.lst vs)/\DenL g.K α H ds vs
 |.dic kvs=>(∃m,H a=some (.dK m)/\DenK g.K α H kvs m)\/ ∃xs,H a=some (DN g.P g.w a xs)/\DenN g.K α H kvs xs
 |.ins c fs=> ∃C gs,g.mg c=some (.ref C)/\DenF g.K α H fs gs/\
   ∃j,H a=some (.frz j (.ext λh=>h.get? a=some j))/\j.cls=.ref C/\(fs=[]\/ ∃k q,j.dict=some k/\H k=some (.frz q (.xd gs))/\ ∃vs,j.data=.fields vs)
 |.rcd c fs=> ∃C k gs,PySem.W.nsIn g.K mainGlobals c=some (some (.ref C))/\H a=some (.ins C k gs)/\DenF g.K α H fs gs
 |.fdc kvs=> ∃j xs,H a=some (.frz j (DN g.P g.w a xs))/\DenN g.K α H kvs xs
def ObD.there(h:ObD g α H a o): ∃j,H a=some j/\(∀xs,j≠.tup xs)/\ ∀ob u,j=.frz ob u-> ∃k,u=.ext k:=by
 cases o with
 |lst ds=>refine h.a λb h _=>?_;exact ZB _ h (λxs z=>by cases z) (λ_ _ z=>by cases z)
 |dic ds=>
  rcases h with⟨b,h,_⟩|⟨b,h,_⟩
  .exact(ZB _ h (λxs z=>by cases z) (λ_ _ z=>by cases z))
  .exact(ZB _ h (λxs z=>by cases z) (λ_ _ z=>by cases z))
 |ins c ds=>
  obtain⟨_,_,_,_,_,h,_⟩:=h;exact ZB _ h (λxs z=>by cases z) (λ_ _ z=>by cases z;exact⟨_,rfl⟩)
 |rcd c ds=>refine h.i λ_ _ _ m=>m.f λ_ h _=>?_;exact ZB _ h (λxs z=>by cases z) (λ_ _ z=>by cases z)
 |fdc kvs=>refine h.d λ_ _ h _=>?_;exact ZB _ h (λxs z=>by cases z) (λ_ _ z=>by cases z;exact⟨_,rfl⟩)
def ObD.move(h:ObD g α H a o)(x:(Ex0 α H α' H'))(e:H' a=H a):ObD g α' H' a o:=by
 cases o with
 |lst ds=>refine h.a λb h l=>?_;exact Z0 b (e.trans h) (l.ex0 x)
 |dic ds=>
  rcases h with⟨b,h,l⟩|⟨b,h,l⟩
  .exact .inl ⟨b,e.trans h,l.ex0 x⟩
  .exact .inr ⟨b,e.trans h,l.ex0 x⟩
 |ins c ds=>
  obtain⟨C,gs,m,l,k,h,y,q⟩:=h;exact⟨C,gs,m,l.ex0 x,k,e.trans h,y,q.imp id λ⟨j,v,u,s,w⟩=>(ZC j v u (x.frz _ _ _ s) w)⟩
 |rcd c ds=>refine h.i λC j gs A=>A.f λm h l=>?_;exact Zv C j gs ⟨m,e.trans h,l.ex0 x⟩
 |fdc kvs=>refine h.d λk xs h l=>?_;exact Zy k xs (e.trans h) (l.ex0 x)
structure Wd(g:Gm)(α:B9)(S:Sto)(H:Hp):Prop where
 len:α.length=↑2
 nd:α.Nodup
 obj: ∀(l:Nat)(a:Addr)(o:MO),α[l]? =some a->S[l]? =some o->ObD g α H a o
section
variable{H:Hp}
def Wd.of(w:Wd g α S H){l:Nat}(h:α[l]? =some a): ∃o,S[l]? =some o/\ObD g α H a o:=by
 have b:l<S.length:=by rw[<-w.len];exact(gS.mp h).1
 exact Z0 (S[l]) (gE b) (w.obj l a _ h (gE b))
def Wd.mem(w:Wd g α S H)(h:a∈α): ∃j,H a=some j/\(∀xs,j≠.tup xs)/\ ∀ob u,j=.frz ob u-> ∃k,u=.ext k:=by obtain⟨l,b⟩:=getElem?_of_mem h;refine(w.of b).a λo _ q=>?_;exact q.there
def Wd.newx(w:Wd g α S H)(hp:H p=none):Ext α H α (yV H p o) where
 pre:=⟨[],by simp⟩
 new:=λb h=>.inl h
 keep:=λb o h _=>by rw[zD (zG h hp)];exact h
 has:=λb o h=>⟨o,by rw[zD (zG h hp)];exact h⟩
 tup:=λb o h=>by rw[zD (zG h hp)];exact h
 frz:=λb o u h=>by rw[zD (zG h hp)];exact h
def Wd.fresh(w:Wd g α S H)(a:H p=none):p∉α:=λz=>by refine(w.mem z).a λ_ h _=>?_;rw[a]at h;cases h
def Wd.new(w:Wd g α S H)(c:H p=none):Wd g α S (yV H p o):=
 ⟨w.len,w.nd,λl a ob b j=>(w.obj l a ob b j).move (w.newx c).toEx0 (zD λz=>w.fresh c (by rw[<-z];exact ë b))⟩
def Xk(h:H a=some ho)(n: ∀ob u,ho≠.frz ob u:=by intro _ _ z;cases z): ∀ob u,H a≠some (.frz ob u):=λob u z=>n ob u (å (h.symm.trans z))
def Wd.writex(w:Wd g α S H){l:Nat}(h:α[l]? =some a)(nf: ∀ob u,H a≠some (.frz ob u)):Ext α H α (yV H a o) where
 pre:=⟨[],by simp⟩
 new:=λb h=>.inl h
 keep:=λb o e n=>by rw[zD λz=>n (by rw[z];exact ë h)];exact e
 has:=λb o e=>by
  by_cases z:b=a
  .subst z;exact⟨_,zO⟩
  .exact⟨o,by rw[zD z];exact e⟩
 tup:=λb xs e=>by refine(w.mem (ë h)).c λho h1 h2 _=>?_;rw[zD λz=>h2 xs (by subst z;rw[e]at h1;exact(å h1).symm)];exact e
 frz:=λb ob u e=>by rw[zD λz=>nf ob u (by rw[<-z];exact e)];exact e
def Wd.ne(w:Wd g α S H){l:Nat}(h:α[l]? =some a)(h':α[m]? =some b)(n:l≠m):a≠b:=by rintro rfl;obtain⟨o,j⟩:=gS.mp h;obtain⟨k,c⟩:=gS.mp h';exact n ((getElem_inj w.nd).mp (j.trans c.symm))
def Wd.write(w:Wd g α S H)(h:α[l]? =some a)(nf: ∀ob u,H a≠some (.frz ob u))(q:ObD g α (yV H a o) a ob):Wd g α (S.set l ob) (yV H a o) where
 len:=by rw[ā];exact w.len
 nd:=w.nd
 obj:=λm b ob' h1 h2=>by
  by_cases e:l=m
  .subst e;rw[h]at h1;rw[Ā (by rw[<-w.len];exact(gS.mp h).1)]at h2;rw[<-å h1, <-å h2];exact q
  .rw[ñ e]at h2;exact(w.obj m b ob' h1 h2).move (w.writex h nf).toEx0 (zD (w.ne h1 h λz=>e z.symm))
def Wd.enterx(w:Wd g α S H)(x:Ext α0 H0 α H)(h0:H0 b=none)(n:b∉α):Ext α0 H0 (α++[b]) H where
 pre:=let ⟨t,e⟩:=x.pre;⟨_,by rw[e,aA]⟩
 new:=λc hc=>(ç.mp hc).elim (x.new c) λz=>.inr (by rw[mS.mp z];exact h0)
 keep:=x.keep
 has:=x.has
 tup:=x.tup
 frz:=x.frz
theorem Wd.enter(w:Wd g α S H)(h:H b=some (.lst vs))(n:b∉α)(l:DenL g.K α H ds vs):Wd g (α++[b]) (S++[.lst ds]) H where
 len:=by rw[lA,lA,w.len];rfl
 nd:=ĸ.mpr ⟨w.nd,by simp,λa ha c hc=>by rw[mS.mp hc];rintro rfl;exact n ha⟩
 obj:=λm a o h1 h2=>by
  by_cases hm:m<α.length
  .rw[è hm]at h1;rw[è (by rw[<-w.len];exact hm)]at h2;exact(w.obj m a o h1 h2).move (Ex0.grow α [b] H) rfl
  .have hm':m=α.length:=by
    have:=(gS.mp h1).1;rw[lA,lS]at this
    lia
   subst hm';rw[ð (à _),sub_self]at h1;rw[ð (by rw[w.len];exact à _),w.len,sub_self]at h2;cases h1;cases h2;exact Z0 vs h (l.ex0 (Ex0.grow α [b] H))
end
inductive R(β:Type) where
 |ok (b:β) (S:Sto)|exc (c:Str) (fs:List (Str×MV)) (S:Sto)|no
def R.bind:R β->(β->Sto->R γ)->R γ
 |.ok b S,k=>k b S
 |.exc c fs S,_=>.exc c fs S
 |.no,_=>.no
theorem R.bind_ok(b)(S)(k:β->Sto->R γ):(R.ok b S).bind k=k b S:=rfl
inductive Er where
 |val (d:MV)|new (ds:Q0)
instance:Inhabited Er:=⟨.val .non⟩
def DenX(K:O0)(α:B9)(H:Hp):Er->V->Prop
 |.val d,v=>Den K α H d v
 |.new ds,v=> ∃b vs,v=.ref b/\H b=some (.lst vs)/\b∉α/\DenL K α H ds vs
def DenE(K:O0)(H:Hp)(α':B9)(H':Hp)(r:Er)(v:V):Prop:=DenX K α' H' r v/\match r with |.new _=> ∀a,v=.ref a->H a=none|_=>True
section
variable{K:O0}
def DenX.ext(x:(Ext α H α' H')): ∀{r}{v},DenX K α H r v->DenX K α' H' r v
 |.val d,_,q=>Den.ext x q
 |.new ds,_,⟨b,vs,e,h,n,l⟩=>(Zr b vs e (x.keep b _ h n) (x.out h n) (l.ext x))
def DenE.val(q:Den K α' H' d v):DenE K H α' H' (.val d) v:=⟨q,trivial⟩
def DenE.back(c: ∀b,H b=none->H0 b=none)(q:DenE K H α' H' r v):DenE K H0 α' H' r v:=by
 refine⟨q.1,?_⟩
 cases r with
 |new ds=>exact λa e=>c a (q.2 a e)
 |_=>trivial
def DenE.ext(x:Ext α' H' α'' H'')(q:DenE K H α' H' r v):DenE K H α'' H'' r v:=⟨q.1.ext x,q.2⟩
end
section
variable{K:O0}
def XI(d:DenX K α H (.val .non) v):v=.non:=gP (K:=K) (α:=α) (H:=H) d
def BA(d:DenX K α H (.val (.bl b)) v):v=.bl b:=eV (K:=K) (α:=α) (H:=H) d
def yK(d:DenX K α H (.val (.int b)) v):v=.int b:=yI (K:=K) (α:=α) (H:=H) d
def gA(d:DenX K α H (.val (.str b)) v):v=.str (gO b):=yX (K:=K) (α:=α) (H:=H) d
def B2(d:DenX K α H (.val (.typ b)) v):v=.ty b:=cF (K:=K) (α:=α) (H:=H) d
def Jz(d:DenX K α H (.val (.obj c ns ds)) v): ∃a C j vs o,v=.ref a/\H a=some (.frz o (.ins C j (ns.zip vs)))/\PySem.W.nsIn K mainGlobals c=some (some (.ref C))/\(PySem.W.clsIn K C).map (·.name)=some c/\ns.length=(vs.length)/\DenL K α H ds vs:=gQ d
def nF(d:DenX K α H (.val (.tup ds)) v): ∃a vs,v=.ref a/\SqT K H a vs/\DenL K α H ds vs:=yN d
def PQ(d:DenX K α H (.val (.scr ds)) v): ∃a vs,v=.ref a/\SqF K H a vs/\DenL K α H ds vs:=gR d
def eW(d:DenX K α H (.val (.loc l)) v): ∃a,v=.ref a/\α[l]? =some a:=hZ (K:=K) (H:=H) d
end
noncomputable def GX:List Er->List V->List Addr
 |.new _::rs,.ref b::vs=>b::GX rs vs
 |_::rs,_::vs=>GX rs vs
 |_,_=>[]
inductive ArgsE(K:O0)(H:Hp)(α':B9)(H':Hp):List Er->List V->Prop
 |nil:ArgsE K H α' H' [] []
 |cons {r v rs vs}:DenE K H α' H' r v->(∀ds b,r=.new ds->v=.ref b->b∉GX rs vs)->ArgsE K H α' H' rs vs->ArgsE K H α' H' (r::rs) (v::vs)
theorem ArgsE.nones{K:O0}{rs vs}(q:ArgsE K H α' H' rs vs): ∀b∈GX rs vs,H b=none:=by
 induction q with
 |nil=>exact λb h=>by simp[GX]at h
 |@cons r v _ _ a n l i=>
  intro b h;cases r with
  |val d=>exact i b (by simpa [GX]using h)
  |new ds=>
   refine a.1.d λc vs j _=>?_;subst j;rcases mC.mp h with rfl|h
   .exact a.2 _ rfl
   .exact i b h
def ArgsE.ext{K:O0}(x:Ext α' H' α'' H''): ∀{rs vs},ArgsE K H α' H' rs vs->ArgsE K H α'' H'' rs vs:=λb=>by
 induction b with
 |nil=>exact .nil
 |cons a n l ih=>exact .cons (a.ext x) n (ih)
def ArgsE.back{K:O0}(c: ∀b,H b=none->H0 b=none): ∀{rs vs},ArgsE K H α' H' rs vs->ArgsE K H0 α' H' rs vs:=λj=>by
 induction j with
 |nil=>exact .nil
 |cons a n l ih=>exact .cons (a.back c) n (ih)
def ArgsE.length{K:O0}: ∀{rs vs},ArgsE K H α' H' rs vs->(vs.length)=rs.length:=λa=>by
 induction a with
 |nil=>exact rfl
 |cons _ _ l ih=>exact by rw[lC0,lC0,ih]
class Dn (β:Type) (τ:outParam Type) where
 d:Gm->Hp->List Addr->Sto->Hp->β->τ->Prop
 back: ∀{g:Gm}{H H0:Hp}{α':B9}{S':Sto}{H':Hp}{b:β}{u:τ},(∀b,H b=none->H0 b=none)->d g H α' S' H' b u->d g H0 α' S' H' b u
instance:Dn Er V:=⟨λg H α' _ H' r v=>DenE g.K H α' H' r v,λa q=>q.back a⟩
instance:Dn Bool Bool:=⟨λ_ _ _ _ _ b u=>u=b,λ_ q=>q⟩
instance:Dn (List Er) (List V):=⟨λg H α' _ H' r v=>ArgsE g.K H α' H' r v,λa q=>q.back a⟩
instance:Dn (Option Int) (Option Int):=⟨λ_ _ _ _ _ b u=>u=b,λ_ q=>q⟩
abbrev XW:=Str->List (Str×MV)->Sto->List Addr->Hp->Prop
abbrev W0:XW:=λ_ _ _ _ _=>False
def Post[Dn β τ](g:Gm)(W:XW)(α:B9)(H:Hp):R β->(τ->Hp->Prop)->Prop
 |.ok b S,Q=> ∀u α' H',Ext α H α' H'->Wd g α' S H'->Dn.d g H α' S H' b u->Q u H'
 |.exc c fs S,_=> ∀α' H',Ext α H α' H'->Wd g α' S H'->W c fs S α' H'
 |.no,_=>False
section
variable[Dn β τ][Dn γ υ]
def Post.shift(x:(Ext α H α' H')): ∀{m:R β}{Q},Post g W α H m Q->Post g W α' H' m Q
 |.ok b S,Q,q=>λu j k y v B=>q u j k (x.trans y) v (Dn.back (λb h=>x.free h) B)
 |.exc c fs S,_,q=>λj k y v=>q j k (x.trans y) v
 |.no,_,q=>q
def Post.bind{k:β->Sto->R γ}(q:Post g W α H (m.bind k) Q)
  (f: ∀u b y j v,m=.ok b y->Ext α H j v->Wd g j y v->Dn.d g H j y v b u->Post g W α H (k b y) Q->Q' u v):Post g W α H m Q':=by
 cases m with
 |ok b S=>exact λu j v x w d=>f u b S j v rfl x w d q
 |exc c fs S=>exact q
 |no=>exact q
def Post.here{b:β}(q:Post g W α H (.ok b S) Q)(w:Wd g α S H)(d:Dn.d g H α S H b u):Q u H:=q u α H (Ext.refl α H) w d
end
def Post.val(q:Post g W α H (.ok (Er.val d) S) Q)(w:Wd g α S H)(k:Den g.K α H d v):Q v H:=q.here w (DenE.val k)
def Post.newl(q:Post g W α H (.ok (Er.new ds) S) Q)(w:Wd g α S H)(b:H p=none)(l:DenL g.K α H ds vs):Q (.ref p) (yV H p (.lst vs)):=
 q _ α _ (w.newx b) (w.new b) ⟨(Zr p vs rfl zO (w.fresh b) (l.ext (w.newx b))),λa e=>by cases e;exact b⟩
def Post.newt(q:Post g W α H (.ok (Er.val (.tup ds)) S) Q)(w:Wd g α S H)(a:H p=none)(l:DenL g.K α H ds vs):Q (.ref p) (yV H p (.tup vs)):=
 q _ α _ (w.newx a) (w.new a) (.val (rA (.of zO) (l.ext (w.newx a))))
abbrev Rho:=List (Option MV)
structure Slots(K:O0)(α:B9)(H:Hp)(ρ:Rho)(σ:St):Prop where
 len:σ.length=ρ.length
 slot: ∀(i:Nat)(d:MV),ρ[i]? =some (some d)-> ∃v,σ[i]? =some (some v)/\Den K α H d v
section
variable{K:O0}
def Slots.ex0(q:Slots K α H ρ σ)(x:(Ex0 α H α' H')):Slots K α' H' ρ σ:=⟨q.len,λi d e=>let ⟨v,b,a⟩:=q.slot i d e;(Z0 v b (a.ex0 x))⟩
def Slots.ext(q:Slots K α H ρ σ)(x:(Ext α H α' H')):Slots K α' H' ρ σ:=q.ex0 x.toEx0
theorem Al{α:Type}{l:List α}{x y:α}(h:(l.set i x)[j]? =some y):(j=i/\y=x/\i<(l.length))\/(j≠i/\l[j]? =some y):=by
 by_cases a:i=j
 .subst a;by_cases b:i<(l.length)
  .rw[Ā b]at h;exact .inl ⟨rfl,(å h).symm,b⟩
  .rw[Ď (by rw[ā];lia)]at h;cases h
 .rw[ñ a]at h;exact .inr ⟨λz=>a z.symm,h⟩
def Slots.set(q:Slots K α H ρ σ)(h:Den K α H d v):Slots K α H (ρ.set i (some d)) (σ.set i (some v)):=by
 refine⟨by rw[ā,ā];exact q.len,λj e z=>?_⟩;rcases Al z with⟨rfl,e',hl⟩|⟨hj,e'⟩
 .cases e';exact⟨v,by rw[Ā (by rw[q.len];exact hl)],h⟩
 .refine(q.slot j e e').a λu b a=>?_;exact⟨u,by rw[ñ (Ne.symm hj)];exact b,a⟩
end
def Jd(X:Cx)(W:XW)[Dn β τ](P:(St->Hp->(τ->Hp->Prop)->Prop)->Prop)(f:Rho->Sto->R β):Prop:=
 ∃t,P t/\ ∀α a S σ H Q,Wd X.g α S H->Slots X.K α H a σ->Post X.g W α H (f a S) Q->t σ H Q
abbrev zP(X:Cx)(W:XW)(e:Expr)(f:Rho->Sto->R Er):Prop:=Jd X W (PE X e) f
abbrev BB(X:Cx)(W:XW)(e:Expr)(f:Rho->Sto->R Bool):Prop:=Jd X W (PT X e) f
abbrev Xl(X:Cx)(W:XW)(e:Expr)(f:Rho->Sto->R Bool):Prop:=Jd X W (PW X e) f
abbrev GY(X:Cx)(W:XW)(es:N0)(f:(Rho->Sto->R (List Er))):Prop:=Jd X W (PA X es) f
abbrev B3(X:Cx)(W:XW)(e:Option Expr)(f:Rho->Sto->R (Option Int)):Prop:=Jd X W (PO X e) f
section
variable{X:Cx}{W:XW}{b c:Expr}{f g h:Rho->Sto->R Er}{pos:Pos}
noncomputable def Ra:Option (Option MV)->Sto->R Er
 |some (some d),S=>.ok (.val d) S
 |_,_=>.no
def yR(i:Nat)(a:X.N[i]? =some x:=by rfl)(k:zCY (X.env.scope) x:=by first |exact Or.inl rfl|exact Or.inr (Or.inl rfl)|exact Or.inr (Or.inr rfl))(m:(x==("__debug__"))=false:=by decide)
  (hcd:(x==("__classdict__"))=false:=by decide):zP X W (.Name x pos) (λj S=>Ra (j[i]?) S):=by
 refine Z0 _ (pv i a k m hcd) (λα j S σ H Q s sl q=>?_);dsimp only at q
 cases z:j[i]? with
 |none=>rw[z]at q;exact q.elim
 |some o=>
  cases o with
  |none=>rw[z]at q;exact q.elim
  |some d=>
   rw[z]at q;refine(sl.slot i d z).a λv c b=>?_;exact Z0 v c (Post.val q s b)
def Ka:zP X W (.Constant (.int i) j pos) (λ_ S=>.ok (.val (.int i)) S):=(Z0 _ Ip (λα b S σ H Q a sl q=>Post.val q a (yQ i)))
def Xm:zP X W (.Constant (.bool i) j pos) (λ_ S=>.ok (.val (.bl i)) S):=(Z0 _ Y8 (λα b S σ H Q a sl q=>Post.val q a (xI i)))
def Kb:zP X W (.Constant .none j pos) (λ_ S=>.ok (.val .non) S):=(Z0 _ (λ_ _ _ H _ I h=>Constant_none (ZC .non H I rfl h)) (λα b S σ H Q a sl q=>Post.val q a qZ))
def Kc(cs)(a:x=gO cs:=by rfl):zP X W (.Constant (.str x) j pos) (λ_ S=>.ok (.val (.str cs)) S):=
 (Z0 _ (λ_ _ _ H _ I h=>Calls.Constant_str (ZC (.str x) H (I.tok _) ⟨_,rfl⟩ h)) (λα c S σ H Q b sl q=>Post.val q b (by rw[a];exact eA cs)))
def Rb(a:Gl X x)(b:X.mg x=some (.int i t))(c:(x==("__debug__"))=false:=by decide):zP X W (.Name x pos) (λ_ S=>.ok (.val (.int i)) S):=
 (Z0 _ (ZX (v:=.int i) a b ⟨t,rfl⟩ c) (λα k S σ H Q j sl q=>Post.val q j (yQ i)))
def Am(b:Gl X x)(c:X.mg x=none)(j:bootBuiltins x=some (.type T))(a:x≠"__name__":=by decide)(k:(x==("__debug__"))=false:=by decide):zP X W (.Name x pos) (λ_ S=>.ok (.val (.typ T)) S):=
 (Z0 _ (ZY (v:=.ty T) b c j rfl a k) (λα o S σ H Q m sl q=>Post.val q m (Ai T)))
def B4:zP X W (.UnaryOp .USub (.Constant (.int i) j p3) pos) (λ_ S=>.ok (.val (.int (-i))) S):=
 (Z0 _ (Xe Ja Ip) (λα b S σ H Q a sl q=>(Z0 i rfl (Post.val q a (yQ (-i))))))
def PR(X:Cx)(W:XW)(r:R2)(F:Er->Er->Sto->R Er):Prop:= ∀p q x y α S H Q,Wd X.g α S H->DenX X.K α H p x->DenX X.K α H q y->Post X.g W α H (F p q S) Q->r x y H Q
def two(B:PR X W r F){s c:TE}(A: ∀α j S σ H Q,Wd X.g α S H->Slots X.K α H j σ->Post X.g W α H (f j S) Q->s σ H Q)
  (fb: ∀α j S σ H Q,Wd X.g α S H->Slots X.K α H j σ->Post X.g W α H (g j S) Q->c σ H Q)       (wd:↑19) (sl:Slots X.K α H j σ)
  (q:Post X.g W α H ((f j S).bind λp k=>(g j k).bind λq S2=>F p q S2) Q):s σ H λx m=>c σ m λy v=>r x y v Q:=
 A α j S σ H _ wd sl (q.bind λu p k b m N o L C J=>fb b j k σ m _ L (sl.ext o) ((J.shift o).bind λD p2 S2 a v M w G I E=>
  B p p2 u D a S2 v Q G (C.1.ext w) I.1 (E.shift w)))
def JE(s:OpR X (binaryOp op) r)(o:PR X W r F)(c:zP X W a f)(k:zP X W b g):zP X W (.BinOp a op b pos) (λj S=>(f j S).bind λp u=>(g j u).bind λq S2=>F p q S2):=by refine c.a λA c m=>?_;refine k.a λy k v=>?_;exact Z0 _ (Xd s c k) (λα j S σ H Q w sl q=>two o m v w sl q)
def JF(D:OpR X (compareOp op) r)(w:PR X W r F)(c:zP X W a f)(k:zP X W b g)(A:behindInMarks op b=false:=by first |exact Jc _|with_unfolding_all rfl):
  zP X W (.Compare a [op] [b] pos) (λj S=>(f j S).bind λp B=>(g j B).bind λq S2=>F p q S2):=by
 refine c.a λN c m=>?_;refine k.a λM k E=>?_;exact Z0 _ (by intro pins s σ H Q I h;exact wpAny_Compare1 (Zn c k I h λv u o x y L K J C q=>D pins o σ L x y v u Q K J C q) A) (λα j S σ H Q G sl q=>two w m E G sl q)
def Xn(J:IxR X r)(o:PR X W r F)(c:zP X W a f)(k:zP X W b g)(hs:HZ b:=by exact λ_ _=>rfl):
  zP X W (.Subscript a b pos) (λj S=>(f j S).bind λp G=>(g j G).bind λq S2=>F p q S2):=by
 refine c.a λL c E=>?_;refine k.a λM k A=>?_;exact Z0 _ (by intro pins s σ H Q I h;exact Subscript_ (Zn c k I h λv u m x y D C B w q=>J a b pins m σ D x y v u Q C B w q (hs _ _))) (λα j S σ H Q K sl q=>two o E A K sl q)
noncomputable def gB:Er->Sto->R Bool
 |.val (.bl b),S=>.ok b S
 |_,_=>.no
def UB(q:Post X.g W α H (gB p S) Q): ∃k,p=.val (.bl k)/\Post X.g W α H (.ok k S) Q:=by
 unfold gB at q;split at q
 .exact⟨_,rfl,q⟩
 .exact q.elim
def CW[Dn β τ]{k:Bool->Sto->R β}(q:Post X.g W α H ((gB p S).bind k) Q): ∃c,p=.val (.bl c)/\Post X.g W α H (k c S) Q:=by
 unfold gB at q;split at q
 .exact⟨_,rfl,q⟩
 .exact q.elim
def BQ(ho:OpR X (compareOp op) r)(G:PR X W r F)(w:zP X W a f)(A:zP X W b g)(hm:behindInMarks op b=false:=by first |exact Jc _|with_unfolding_all rfl):
  BB X W (.Compare a [op] [b] pos) (λj S=>((f j S).bind λp B=>(g j B).bind λq S2=>F p q S2).bind gB):=by
 refine w.a λP w Z=>?_;refine A.a λY A K=>?_;refine(Z0 _ (show PT X (.Compare a [op] [b] pos) (Xg (zDA r P Y)) by
   rw[22]
   refine wpAny_isTrue_Compare1 (xV (w pins s σ H _ I h) λv s1 ⟨x,C,I1,r1,m⟩=>xV (A pins s1 σ C _ I1 m) λu D ⟨y,O,M,J,o⟩=>
    xV (ho pins D σ O x y v u _ M r1 J o) λc s3 ⟨z,T,I3,N,k,e,U⟩=>?_) hm
   subst e;subst N;exact ĉ (Z0 T I3 U)) (λα j S σ H Q wd sl q=>?_));refine two G Z K wd sl (q.bind λu p B L C e1 E w1 d1 m=>?_);refine(UB (m.shift E)).a λk V o=>?_;subst V;exact⟨k,BA d1.1,o.here w1 rfl⟩
def B5(F G:Er->Er->Sto->R Er)(p q:Er)(S:Sto)(k:Sto->R Er):R Er:=(F p q S).bind λz b=>(gB z b).bind λc a=>if c=true then(k a).bind λr j=>G q r j else .ok (.val (.bl false)) a
def chain(J:PR X W r F)(Y:PR X W r' G)(Z: ∀α j S σ H Q,Wd X.g α S H->Slots X.K α H j σ->Post X.g W α H (f j S) Q->ta σ H Q)
  (fb: ∀α j S σ H Q,Wd X.g α S H->Slots X.K α H j σ->Post X.g W α H (g j S) Q->tb σ H Q) (fc: ∀α j S σ H Q,Wd X.g α S H->Slots X.K α H j σ->Post X.g W α H (h j S) Q->tc σ H Q)       (wd:↑19) (sl:Slots X.K α H j σ)
  (q:Post X.g W α H ((f j S).bind λp y=>(g j y).bind λq S2=>B5 F G p q S2 λS3=>h j S3) Q):Je r r' ta tb tc σ H Q:=
 Z α j S σ H _ wd sl (q.bind λu p y o H1 e1 b w1 d1 N=>fb o j y σ H1 _ w1 (sl.ext b) ((N.shift b).bind λA p2 S2 c M e2 v w2 C q2=>by
  refine J p p2 u A c S2 M _ w2 (d1.1.ext v) C.1 (Post.bind (q2.shift v) λu3 p3 S3 s O e3 w D E P=>?_);refine(CW (P.shift w)).a λk V a=>?_;subst V;refine Z0 k (BA E.1) ?_
  cases k with
  |true=>
   rw[iP rfl]at a ⊢;exact fc s j S3 σ O _ D (((sl.ext b).ext v).ext w) (a.bind λU T S5 m H5 e5 B L I q5=>Y p2 T A U m S5 H5 Q L ((C.1.ext w).ext B) I.1 (q5.shift B))
  |false=>
   rw[iN0 xF0]at a ⊢;exact Post.val a D (xI false)))
noncomputable def lX:Er->Sto->R Bool
 |.val .non,S=>.ok false S
 |.val (.bl b),S=>.ok b S
 |.val (.int i),S=>.ok (i !=0) S
 |.val (.str x),S=>if x.length<=sizeLine then .ok (!x.isEmpty) S else .no
 |.val (.tup ds),S=>.ok (!ds.isEmpty) S
 |.val (.scr ds),S=>.ok (!ds.isEmpty) S
 |.val (.loc l),S=>match S[l]? with
  |some (.lst ds)=>.ok (!ds.isEmpty) S
  |_=>.no
 |.val (.typ _),_=>.no
 |.val (.obj _ _ _),_=>.no
 |.new ds,S=>.ok (!ds.isEmpty) S
def vN{K:O0}(l:(DenL K α H ds vs)):(!vs.isEmpty)= !ds.isEmpty:=by have:=(l.length);cases ds<;>cases vs<;>simp_all
theorem Ke(m:↑19)(d:DenX X.K α H p x)(q:Post X.g W α H (lX p S) Q): ∃k,Zs X.K x H k/\Q k H:=by
 match p,d,q with
 |.val .non,d,q=>cases XI d;exact⟨_,rfl,q.here m rfl⟩
 |.val (.bl b),d,q=>cases BA d;exact Z0 _ rfl (q.here m rfl)
 |.val (.int i),d,q=>cases yK d;exact Z0 _ rfl (q.here m rfl)
 |.val (.typ n),d,q=>exact q.elim
 |.val (.obj _ _ _),d,q=>exact q.elim
 |.val (.str z),d,q=>
  cases gA d;have j:Post X.g W α H (if z.length<=sizeLine then R.ok _ S else R.no) Q:=q;split at j
  .rename_i v;refine⟨_,⟨by rw[jN];exact v,?_⟩,j.here m rfl⟩;rw[jN]
   cases z with
   |nil=>rfl
   |cons c r=>
    have B:((r.length:Int)+1)≠0:=by lia
    simp[B]
  .exact j.elim
 |.val (.tup ds),d,q=>
  obtain⟨a,u,rfl,s,l⟩:=nF d;exact⟨_,.inr (.inl ⟨u,s,(vN l).symm⟩),q.here m rfl⟩
 |.val (.scr ds),d,q=>
  obtain⟨a,u,rfl,s,l⟩:=PQ d;exact⟨_,.inl ⟨u,s.l,(vN l).symm⟩,q.here m rfl⟩
 |.val (.loc n),d,q=>
  obtain⟨a,rfl,h⟩:=eW d;refine(m.of h).a λo y w=>?_;have j:Post X.g W α H (match S[n]? with |some (.lst ds)=>R.ok _ S|_=>R.no) Q:=q;rw[y]at j
  cases o with
  |lst ds=>
   refine w.a λu A l=>?_;exact Z0 _ (.inl ⟨u,.of A,(vN l).symm⟩) (j.here m rfl)
  |dic ds=>exact j.elim
  |ins c fs=>exact j.elim
  |rcd c fs=>exact j.elim
  |fdc _=>exact j.elim
 |.new ds,⟨a,u,ex,s,n,l⟩,q=>subst ex;exact Z0 _ (.inl ⟨u,.of s,(vN l).symm⟩) (q.here m rfl)
def JG(c:zP X W a f)(y: ∀j,isTrue a X.env j=(do let v <-j;standAt a.pos;holding [v] (truthy v)):=by intro _;rfl):BB X W a (λk S=>(f k S).bind lX):=by refine c.a λG c B=>?_;exact(Z0 _ (by
  intro pins s σ H Q I h;exact isTrue_plain (xV (c pins s σ H _ I h) λv E ⟨x,m,I1,A,b⟩=>Zt pins E σ m x v Q I1 A b) (y _)) (λα k S σ H Q D sl q=>B α k S σ H _ D sl (q.bind λu p J w m K o F C b=>Ke F C.1 (b.shift o))))
end
section
variable{c:Expr}{h:Rho->Sto->R Er}
def Re(p:Er)(S:Sto)(k:Sto->R Er):R Er:=(gB p S).bind λc a=>if c=true then k a else .ok (.val (.bl false)) a
def orF(p:Er)(S:Sto)(k:Sto->R Er):R Er:=(gB p S).bind λc a=>if c=true then .ok (.val (.bl true)) a else k a
def B6(b:zP X W a f):zP X W (.BoolOp op [a] pos) f:=let ⟨t,h,k⟩:=b;(Z0 t (λpins s σ H Q I hw=>BoolOp_one (h pins s σ H Q I hw)) k)
def B7(s:zP X W a f)(v:zP X W (.BoolOp .And (b::es) pos) g):zP X W (.BoolOp .And (a::b::es) pos) (λj S=>(f j S).bind λp m=>Re p m λS2=>g j S2):=by
 refine s.a λJ s A=>?_;refine v.a λG v D=>?_;refine Z0 _ (Yz s v) (λα j S σ H Q E sl q=>A α j S σ H _ E sl (q.bind λu p m o B I w y C F=>?_));refine(CW (F.shift w)).a λk K c=>?_;subst K;refine Z0 k (BA C.1) ?_
 cases k with
 |true=>rw[iP rfl]at c ⊢; exact D o j m σ B _ y (sl.ext w) c
 |false=>rw[iN0 xF0]at c ⊢; exact Post.val c y (xI false)
def zAU(s:zP X W a f)(v:zP X W (.BoolOp .Or (b::es) pos) g):zP X W (.BoolOp .Or (a::b::es) pos) (λj S=>(f j S).bind λp m=>orF p m λS2=>g j S2):=by
 refine s.a λJ s A=>?_;refine v.a λG v D=>?_;refine Z0 _ (Z3 s v) (λα j S σ H Q E sl q=>A α j S σ H _ E sl (q.bind λu p m o B I w y C F=>?_));refine(CW (F.shift w)).a λk K c=>?_;subst K;refine Z0 k (BA C.1) ?_
 cases k with
 |true=>rw[iP rfl]at c ⊢; exact Post.val c y (xI true)
 |false=>rw[iN0 xF0]at c ⊢; exact D o j m σ B _ y (sl.ext w) c
def Kf(m:zP X W a f):zP X W (.UnaryOp .Not a pos) (λj S=>(f j S).bind λp y=>(gB p y).bind λk S2=>.ok (.val (.bl !k)) S2):=by refine m.a λB m D=>?_;refine Z0 _ (show PE X (.UnaryOp .Not a pos) (Z2 B) by intro pins s σ H Q I h;refine UnaryOp_ (xV (m pins s σ H _ I h) λv L ⟨x,o,I1,C,b⟩=>?_);obtain⟨c,rfl,b⟩:=b;subst C;exact not_of (ĉ (ZC (.bl (!c)) o I1 rfl b))) (λα j S σ H Q G sl q=>D α j S σ H _ G sl (q.bind λu p y A o K w J E b=>?_));refine(CW (b.shift w)).a λk M F=>?_;subst M;exact⟨k,BA E.1,Post.val F J (xI _)⟩
def Rf(b:BB X W a tf):Xl X W (.BoolOp .And [a] pos) tf:=let ⟨t,h,k⟩:=b;(Z0 t (Pt h) k)
def Kg(b:BB X W a tf):Xl X W (.BoolOp .Or [a] pos) tf:=let ⟨t,h,k⟩:=b;(Z0 t (Yv h) k)
theorem B8(v:BB X W a tf)(w:Xl X W (.BoolOp .And (b::es) pos) tg):Xl X W (.BoolOp .And (a::b::es) pos) (λj S=>(tf j S).bind λk m=>if k=true then tg j m else .ok false m):=by
 refine v.a λI v A=>?_;refine w.a λF w D=>?_;refine Z0 _ (Yw v w) (λα j S σ H Q E sl q=>A α j S σ H _ E sl (q.bind λu p m s B G o y C c=>?_));subst C
 cases u with
 |true=>rw[iP rfl]at c ⊢; exact D s j m σ B _ y (sl.ext o) (c.shift o)
 |false=>rw[iN0 xF0]at c ⊢; exact(c.shift o).here y rfl
def Xo(v:BB X W a tf)(w:Xl X W (.BoolOp .Or (b::es) pos) tg):Xl X W (.BoolOp .Or (a::b::es) pos) (λj S=>(tf j S).bind λk m=>if k=true then .ok true m else tg j m):=by
 refine v.a λI v A=>?_;refine w.a λF w D=>?_;refine Z0 _ (Y9 v w) (λα j S σ H Q E sl q=>A α j S σ H _ E sl (q.bind λu p m s B G o y C c=>?_));subst C
 cases u with
 |true=>rw[iP rfl]at c ⊢; exact(c.shift o).here y rfl
 |false=>rw[iN0 xF0]at c ⊢; exact D s j m σ B _ y (sl.ext o) (c.shift o)
def Xp(h:Xl X W a tf):BB X W a tf:=let ⟨t,h,k⟩:=h;(Z0 t h.pt k)
theorem PV(b:BB X W a tf):BB X W (.UnaryOp .Not a pos) (λj S=>(tf j S).bind λk m=>.ok (!k) m):=by refine b.a λF b v=>?_;refine Z0 _ (by intro pins s σ H Q I h;exact isTrue_not (b pins s σ H (λc o=>Q (!c) o) I h)) (λα j S σ H Q A sl q=>v α j S σ H _ A sl (q.bind λu p m B o E w C y D=>?_));subst y;exact(D.shift w).here C rfl
end
section
variable{K:O0}
noncomputable def zK:List Er->Sto->List MV×Sto
 |[],S=>([],S)
 |.val d::rs,S=>((d::(zK rs S).1),(zK rs S).2)
 |.new xs::rs,S=>((.loc S.length::(zK rs (S++[.lst xs])).1),(zK rs (S++[.lst xs])).2)
def ArgsE.grow(q:ArgsE K H0 α H rs vs)(n:b∉GX rs vs):ArgsE K H0 (α++[b]) H rs vs:=by
 induction q with
 |nil=>exact .nil
 |@cons r v rs vs a m l ih=>
  cases r with
  |val d=>exact .cons ⟨Den.ex0 (Ex0.grow α [b] H) a.1,trivial⟩ m (ih (by simpa [GX]using n))
  |new ds=>
   obtain⟨⟨c,k,rfl,u,o,w⟩,s⟩:=a;have j:=n;refine .cons ⟨(Zr c k rfl u (λz=>?_) (w.ex0 (Ex0.grow α [b] H))),s⟩ m (ih λz=>j (mO _ z));rcases ç.mp z with z|z
   .exact o z
   .exact j (by rw[mS.mp z];exact mF0)
theorem pY: ∀{rs}{vs}{α}{S},Wd g α S H->Ext α0 H0 α H->ArgsE g.K H0 α H rs vs->
  ∃α',Ext α0 H0 α' H/\Ex0 α H α' H/\Wd g α' (zK rs S).2 H/\DenL g.K α' H (zK rs S).1 vs
 |_,_,α,S,w,x,.nil=>⟨α,x,⟨⟨[],by simp⟩,λ_ _ h=>h,λ_ _ _ h=>h⟩,w,yA⟩
 |.val d::rs,v::vs,α,S,w,x,.cons a n l=>by refine(pY w x l).elim λα' y=>y.e λx' j m k=>?_;exact⟨α',x',j,m,zV (Den.ex0 j a.1) k⟩
 |.new ds::rs,v::vs,α,S,w,x,.cons a n l=>by
  obtain⟨⟨c,u,rfl,q,b,s⟩,o⟩:=a;refine(pY (w.enter q b s) (w.enterx x (o c rfl) b) (l.grow (n ds c rfl rfl))).elim λα' A=>A.e λx' j m k=>?_;refine⟨α',x',⟨?_,j.tup,j.frz⟩,m,zV (vM (j.at ?_)) k⟩
  .obtain⟨t,e⟩:=j.pre;exact⟨_,by rw[e,aA]⟩
  .rw[<-w.len,ð (à _),sub_self];rfl
theorem vO: ∀ rs  S ,(zK rs S).1.length=↑9
 |[],S=>rfl
 |.val d::rs,S=>by show(d::(zK rs S).1).length=_;rw[lC0,vO rs S];rfl
 |.new ds::rs,S=>by show(_::(zK rs _).1).length=_;rw[lC0,vO rs _];rfl
end
section
variable{a b c:Expr}{g h:Rho->Sto->R Er}{pos:Pos}
def lY:GY X W [] (λ_ S=>.ok [] S):=(Z0 _ BO (λα b S σ H Q a sl q=>q.here a .nil))
def yZ(C:zP X W a f)(A:GY X W es af)(hs:q9 X a es:=by rfl):GY X W (a::es) (λm S=>(f m S).bind λp v=>(af m v).bind λps S2=>.ok (p::ps) S2):=by
 refine C.a λY C K=>?_;refine A.a λT A fr=>?_;refine Z0 _ (aY C A hs) (λα m S σ H Q N sl q=>K α m S σ H _ N sl (q.bind λu p v w L e1 o O D J=>fr w m v σ L _ O (sl.ext o) ?_));have j:Post X.g W α H _ Q:=J
 cases z:af m v with
 |ok ps S2=>
  rw[z]at j;intro Z k y s B E;refine j _ k y (o.trans s) B (ArgsE.cons (DenE.ext s D) (λds b F M P=>?_) (ArgsE.back (λb h=>o.free h) E));subst F M;obtain⟨⟨c,U,G,I,_⟩,_⟩:=D;cases G;have:=ArgsE.nones E _ P;rw[I]at this;cases this
 |exc c fs S2=>rw[z]at j;exact λk y s B=>j k y (o.trans s) B
 |no=>rw[z]at j;exact j
def wD(rs:List Er)(S:Sto):R Er:=if ↑9<=sizeLine then .ok (.val (.tup (zK rs S).1)) (zK rs S).2 else .no
def yW(rs:List Er)(S:Sto):R Er:=if ↑9<=sizeLine then .ok (.new (zK rs S).1) (zK rs S).2 else .no
def C1(h:GY X W es af):zP X W (.Tuple es j pos) (λm S=>(af m S).bind wD):=by
 refine h.a λt h k=>?_;refine Z0 _ (show PE X (.Tuple es j pos) (tTup t) by intro pins s σ H Q I w;refine wpAny_Tuple_spliced (xV (h pos pins s σ H _ I w) λy M ⟨xs,J,I1,r,z,q⟩=>⟨by rw[<-r.length];exact z,?_⟩);refine ZC (.ref M.heap.objs.size) _ (I1.laid (λb u e=>hP0 _ e) (à _) ?_) rfl (q _ (I1.hok.fresh (à _)));exact⟨z,y,r,⟨_,ã _ rfl,rfl,_,rfl⟩⟩) (λα m S σ H Q K sl q=>k α m S σ H _ K sl (q.bind λO o G B J T j N c E=>?_));have a:Post X.g W α H (if o.length<=sizeLine then R.ok _ (zK o G).2 else R.no) Q:=E;split at a
 .rename_i A;refine(pY N j c).elim λv U=>U.e λF P L D=>?_;exact⟨by rw[ArgsE.length c];exact A,λp C=>(a.shift F).newt L C D⟩
 .exact a.elim
def JH(h:GY X W es af):zP X W (.List es pos) (λj S=>(af j S).bind yW):=by
 refine h.a λt h k=>?_;refine Z0 _ (show PE X (.List es pos) (tLst t) by intro pins s σ H Q I w;refine wpAny_List_spliced (xV (h pos pins s σ H _ I w) λy M ⟨xs,J,I1,r,z,q⟩=>⟨by rw[<-r.length];exact z,?_⟩);refine ZC (.ref M.heap.objs.size) _ (I1.laid (λb u e=>hP0 _ e) (à _) ?_) rfl (q _ (I1.hok.fresh (à _)));exact⟨z,y,0,r,ã _ rfl⟩) (λα j S σ H Q K sl q=>k α j S σ H _ K sl (q.bind λO m G B J T o N c E=>?_));have a:Post X.g W α H (if m.length<=sizeLine then R.ok _ (zK m G).2 else R.no) Q:=E;split at a
 .rename_i A;refine(pY N o c).elim λv U=>U.e λF P L D=>?_;exact⟨by rw[ArgsE.length c];exact A,λp C=>(a.shift F).newl L C D⟩
 .exact a.elim
inductive ArgsX(K:O0)(α:B9)(H:Hp):List Er->List V->Prop
 |nil:ArgsX K α H [] []
 |cons {r v rs vs}:DenX K α H r v->ArgsX K α H rs vs->ArgsX K α H (r::rs) (v::vs)
def ArgsE.x{K:O0}: ∀{rs vs},ArgsE K H0 α H rs vs->ArgsX K α H rs vs:=λb=>by
 induction b with
 |nil=>exact .nil
 |cons a _ l ih=>exact .cons a.1 (ih)
def aT(X:Cx)(W:XW)(r:List V->Hp->VK->Prop)(F:List Er->Sto->R Er):Prop:= ∀b a α S H Q,Wd X.g α S H->ArgsX X.K α H b a->Post X.g W α H (F b S) Q->r a H Q
def wW{id:String}{p:Pos}(y:CallR X (.builtin id) r)(u:aT X W r F)(B:Gl X x)(v:X.mg x=none)(C:bootBuiltins x=some (.builtin id))(b:(GY X W (e::es) af))
  (hn:x≠"__name__":=by decide) (hdb:(x==("__debug__"))=false:=by decide)
  (he:q9 X e es:=by rfl) (hpl:Q1 X pos es:=by rfl):zP X W (.Call (.Name x p) (e::es) [] pos) (λj S=>(af j S).bind F):=by
 refine b.a λt b k=>?_;exact Z0 _ (tL y B v C b hn hdb he hpl) (λα j S σ H Q A sl q=>k α j S σ H _ A sl (q.bind λc D m a s I o E w G=>u D c a m s Q E (ArgsE.x w) (G.shift o)))
def pZ{p:Pos}(y:CallR X (.type T) r)(u:aT X W r F)(B:Gl X x)(v:X.mg x=none)(C:bootBuiltins x=some (.type T))(b:(GY X W (e::es) af))
  (hn:x≠"__name__":=by decide) (hdb:(x==("__debug__"))=false:=by decide)
  (he:q9 X e es:=by rfl) (hpl:Q1 X pos es:=by rfl):zP X W (.Call (.Name x p) (e::es) [] pos) (λj S=>(af j S).bind F):=by
 refine b.a λt b k=>?_;exact Z0 _ (pR y B v C b hn hdb he hpl) (λα j S σ H Q A sl q=>k α j S σ H _ A sl (q.bind λc D m a s I o E w G=>u D c a m s Q E (ArgsE.x w) (G.shift o)))
def Fc(X:Cx)(W:XW)(r:V->List V->Hp->VK->Prop)(F:Er->List Er->Sto->R Er):Prop:= ∀p j x c α S b H Q a,Wd X.g α S H->Ext a b α H->DenX X.K α H p x->ArgsE X.K b α H j c->Post X.g W a b (F p j S) Q->r x c H Q
def TyM(X:Cx)(T:String)(ty:Er->Sto->Bool):Prop:= ∀p x α S H,Wd X.g α S H->DenX X.K α H p x->ty p S=true->tyV X.K T x H
def PX{id:String}{apos:Pos}(N:PlainAttrs T)(c:Slot T name id)(s:(typeOf (.builtin id)=pure (.type "method_descriptor")))(O:Y1 X id r)(G:Fc X W r F)(M:TyM X T ty)
  (y:zP X W a f) (B:(GY X W (e::es) af))
  (hbase:attributeBase a name X.env (eval a X.env)=eval a X.env:=by rfl)
  (hfew:((backTo pos (starEach (e::es) X.env)).all (λx=>!x.1)&&(backToKw pos (keywordEach [] X.env)).all (λx=>x.1.isSome)
   &&decide ↑6)=true:=by rfl)
  (hline:(apos.endLine==pos.line)=true:=by rfl) (hs:q9 X e es:=by rfl) (hplain:Q1 X pos es:=by rfl):
  zP X W (.Call (.Attribute a name apos) (e::es) [] pos) (λj S=>(f j S).bind λp m=>if ty p m=true then(af j m).bind λrs S2=>F p rs S2 else .no):=by
 refine y.a λto y K=>?_;refine B.a λt B k=>?_;refine Z0 _ (zAQ N c s O y B hbase hfew hline hs hplain) (λα j S σ H Q Y sl q=>K α j S σ H _ Y sl (q.bind λu p m b w e1 A E D v=>?_));split at v
 .rename_i I;exact⟨M p u b m w E D.1 I,k b j m σ w _ E (sl.ext A) ((v.shift A).bind λL rs S2 o J e2 C U Z P=>G p rs u L o S2 w J Q b U C (D.1.ext C) Z P)⟩
 .exact v.elim
def Rg:B3 X W none (λ_ S=>.ok none S):=(Z0 _ (by intro pins s σ H Q I h;exact wP (ZC none H I .none h)) (λα b S σ H Q a sl q=>q.here a rfl))
noncomputable def An:Er->Sto->R (Option Int)
 |.val (.int i),S=>.ok (some i) S
 |_,_=>.no
def Rh(c:zP X W a f):B3 X W (some a) (λj S=>(f j S).bind An):=by
 refine c.a λC c k=>?_;refine Z0 _ (Qj c) (λα j S σ H Q s sl q=>k α j S σ H _ s sl (q.bind λu p y v A B m w o b=>?_));unfold An at b;split at b
 .exact⟨_,yK o.1,(b.shift m).here w rfl⟩
 .exact b.elim
def Sl3(X:Cx)(W:XW)(r:V->Option Int->Option Int->Hp->VK->Prop)(F:Er->Option Int->Option Int->Sto->R Er):Prop:= ∀p lo hi x α S H Q,Wd X.g α S H->DenX X.K α H p x->Post X.g W α H (F p lo hi S) Q->r x lo hi H Q
def Kh{lo:Option Expr}(U:SlR X r)(D:Sl3 X W r F)(y:zP X W a f)(A:B3 X W lo lf)(w:B3 X W hi hf):
  zP X W (.Subscript a (.Slice lo hi none p2) pos) (λj S=>(f j S).bind λp v=>(lf j v).bind λl S2=>(hf j S2).bind λu S3=>F p l u S3):=by
 refine y.a λta y L=>?_;refine A.a λtl A fl=>?_;refine w.a λth w Y=>?_
 refine(Z0 _ (Jm U y A w) (λα j S σ H Q P sl q=>L α j S σ H _ P sl (q.bind λu p v k M e1 b w1 N I=>fl k j v σ M _ w1 (sl.ext b) ((I.shift b).bind λE l S2 c G e2 s T Z O=>
  Y c j S2 σ G _ T ((sl.ext b).ext s) ((O.shift s).bind λu3 m S3 o J e3 B w3 C K=>?_)))))
 subst Z;subst C;exact D p E u3 u o S3 J Q w3 ((N.1.ext s).ext B) (K.shift B)
end
inductive Fl where
 |next (ρ:Rho)|ret (r:Er)|brk (ρ:Rho)|cont (ρ:Rho)
abbrev AX:=Rho->Sto->R Er
abbrev AY:=Rho->Sto->R Fl
abbrev AZ:=Rho->Sto->R Bool
def PostS(g:Gm)(W:XW)(α:B9)(H:Hp)(D:Ends):R Fl->Prop
 |.ok (.next ρ) S=> ∀σ α' H',Ext α H α' H'->Wd g α' S H'->Slots g.K α' H' ρ σ->D.nx σ H'
 |.ok (.ret r) S=> ∀v α' H',Ext α H α' H'->Wd g α' S H'->DenE g.K H α' H' r v->D.rt v H'
 |.ok (.brk ρ) S=> ∀σ α' H',Ext α H α' H'->Wd g α' S H'->Slots g.K α' H' ρ σ->D.bk σ H'
 |.ok (.cont ρ) S=> ∀σ α' H',Ext α H α' H'->Wd g α' S H'->Slots g.K α' H' ρ σ->D.ct σ H'
 |.exc c fs S=> ∀α' H',Ext α H α' H'->Wd g α' S H'->W c fs S α' H'
 |.no=>False
section
def PostS.shift(x:(Ext α H α' H')): ∀{m},PostS g W α H D m->PostS g W α' H' D m
 |.ok (.next ρ) S,q=>λσ j k y u B=>q σ j k (x.trans y) u B
 |.ok (.ret r) S,q=>λv j k y u G=>q v j k (x.trans y) u (G.back λb h=>x.free h)
 |.ok (.brk ρ) S,q=>λσ j k y u B=>q σ j k (x.trans y) u B
 |.ok (.cont ρ) S,q=>λσ j k y u B=>q σ j k (x.trans y) u B
 |.exc c fs S,q=>λj k y u=>q j k (x.trans y) u
 |.no,q=>q
def PostS.expr[Dn β τ]{k:β->Sto->R Fl}(q:PostS g W α H D (m.bind k))
  (f:(∀u b y j v,m=.ok b y->Ext α H j v->Wd g j y v->Dn.d g H j y v b u->PostS g W α H D (k b y)->Q' u v)):Post g W α H m Q':=by
 cases m with
 |ok b S=>exact λu j v x w d=>f u b S j v rfl x w d q
 |exc c fs S=>exact q
 |no=>exact q
def PostS.stmt(q:PostS g W α H D (m.bind k))
  (hn: ∀y S σ j u,m=.ok (.next y) S->Ext α H j u->Wd g j S u->Slots g.K j u y σ->PostS g W α H D (k (.next y) S)->D'.nx σ u)
  (hr: ∀r S v j u,m=.ok (.ret r) S->Ext α H j u->Wd g j S u->DenE g.K H j u r v->PostS g W α H D (k (.ret r) S)->D'.rt v u)
  (hb: ∀y S σ j u,m=.ok (.brk y) S->Ext α H j u->Wd g j S u->Slots g.K j u y σ->PostS g W α H D (k (.brk y) S)->D'.bk σ u)
  (hc: ∀y S σ j u,m=.ok (.cont y) S->Ext α H j u->Wd g j S u->Slots g.K j u y σ->PostS g W α H D (k (.cont y) S)->D'.ct σ u):PostS g W α H D' m:=by
 cases m with
 |ok fl S=>
  cases fl with
  |next y=>exact λσ j u x w s=>hn y S σ j u rfl x w s q
  |ret r=>exact λv j u x w d=>hr r S v j u rfl x w d q
  |brk y=>exact λσ j u x w s=>hb y S σ j u rfl x w s q
  |cont y=>exact λσ j u x w s=>hc y S σ j u rfl x w s q
 |exc c fs S=>exact q
 |no=>exact q
end
def IA(X:Cx)(W:XW)(st:Stmt)(F:AY):Prop:=
 ∃t,PS X st t/\ ∀α a S σ H D,Wd X.g α S H->Slots X.K α H a σ->PostS X.g W α H D (F a S)->t D σ H
def tI(X:Cx)(W:XW)(st:List Stmt)(F:AY):Prop:=
 ∃t,PSs X st t/\ ∀α a S σ H D,Wd X.g α S H->Slots X.K α H a σ->PostS X.g W α H D (F a S)->t D σ H
noncomputable def zF(F G:AY):AY:=λb S=>(F b S).bind λfl a=>match fl with
 |.next ρ'=>G ρ' a
 |.ret r=>.ok (.ret r) a
 |.brk ρ'=>.ok (.brk ρ') a
 |.cont ρ'=>.ok (.cont ρ') a
section
variable{X:Cx}{W:XW}{st:Stmt}{as:List Stmt}{F:AY}{g:AX}{e c:Expr}{pos:Pos}
def XJ:tI X W [] (λj S=>.ok (.next j) S):=(Z0 _ (λ_ _ σ H _ I h=>Ő (Zy (σ) H I h)) (λα j S σ H D a sl q=>q σ α H (Ext.refl α H) a sl))
def tT(h:IA X W st F):tI X W [st] F:=let ⟨t,h,k⟩:=h;(Z0 t (ZZ h) k)
def gT(C:IA X W st F)(B:tI X W sts G):tI X W (st::sts) (zF F G):=by
 refine C.a λt C J=>?_;refine B.a λu B N=>?_;refine(Z0 _ (by
   (intro pins s σ H D I h);refine wpAny_execs_cons (xV (C pins s σ H {D with nx:=u D} I h) λf o q=>?_)
   cases f with
   |next=>
    refine q.d λA H' E q=>?_;exact B pins o A H' D E q
   |ret v=>exact q
   |brk=>exact q
   |cont=>exact q) (λα K S σ H D M sl q=>J α K S σ H _ M sl (q.stmt ?_ ?_ ?_ ?_)))
 .intro j y b a m e c w o k;exact N a j y b m D w o (PostS.shift c k)
 .intro r y v a m e c w L k;exact k v a m c w L
 .intro j y b a m e c w o k;exact k b a m c w o
 .intro j y b a m e c w o k;exact k b a m c w o
def PY(c:zP X W e f):IA X W (.Return (some e) pos) (λj S=>(f j S).bind λr y=>.ok (.ret r) y):=by refine c.a λt c k=>?_;exact Z0 _ (by intro pins s σ H D I h;exact wpAny_Return_some (xV (c pins s σ H _ I h) λv E ⟨x,a,I1,C,m⟩=>(Zv x (σ) a ⟨I1,C,m⟩))) (λα j S σ H D A sl q=>k α j S σ H _ A sl (q.expr λu r y b a e o B w m=>m u b a o B w))
def Ki:IA X W st (λ_ _=>.no):=(Z0 _ Ir (λα a S σ H D b sl q=>q.elim))
def Ri(b:zP X W e f)(hs:swapsWith e none pos.line X.env=pure false:=by rfl):IA X W (.Expr e pos) (λj S=>(f j S).bind λ_ y=>.ok (.next j) y):=by refine b.a λt b k=>?_;exact Z0 _ (by intro pins s σ H D I h;exact wpAny_Expr_any (xV (b pins s σ H _ I h) λv E ⟨x,m,I1,B,c⟩=>(Zy (σ) m I1 c)) I.quiet hs) (λα j S σ H D w sl q=>k α j S σ H _ w sl (q.expr λu r y a m e o A C c=>c σ a m o A (sl.ext o)))
def Kj(s:BB X W c tf)(v:tI X W as F)(w:tI X W bs G):IA X W (.If c as bs pos) (λj S=>(tf j S).bind λk m=>if k=true then F j m else G j m):=by
 refine s.a λL s J=>?_;refine v.a λM v E=>?_;refine w.a λK w I=>?_;refine Z0 _ (Z6 s v w) (λα j S σ H D C sl q=>J α j S σ H _ C sl (q.expr λu p m a y e b A B o=>?_));subst B
 cases u with
 |true=>rw[iP rfl]at o ⊢; exact E a j m σ y D A (sl.ext b) (PostS.shift b o)
 |false=>rw[iN0 xF0]at o ⊢; exact I a j m σ y D A (sl.ext b) (PostS.shift b o)
instance:Dn Rho St:=⟨λg _ α' _ H' a σ=>Slots g.K α' H' a σ,λ_ q=>q⟩
def Kk(X:Cx)(W:XW)(tg:Expr)(gf:(MV->Rho->Sto->R Rho)):Prop:=
 ∃t,PG X tg t/\ ∀α a S σ H d v Q,Wd X.g α S H->Slots X.K α H a σ->Den X.K α H d v->Post X.g W α H (gf d a S) Q->t v σ H Q
def Kl(X:Cx)(W:XW)(a:N0)(gf:List MV->Rho->Sto->R Rho):Prop:=
 ∃t,X9 X a t/\ ∀α c S σ H j b Q,Wd X.g α S H->Slots X.K α H c σ->DenL X.K α H j b->Post X.g W α H (gf j c S) Q->t b σ H Q
noncomputable def yG(i:Nat):MV->Rho->Sto->R Rho:=λd a S=>.ok (a.set i (some d)) S
def Rj(i)(a:X.N.Nodup)(hi:X.N[i]? =some x:=by rfl)(j:Loc (X.env.scope) x:=by first |exact Or.inl rfl|exact Or.inr rfl)(b:Q2 X x:=by first |exact .inl rfl|exact .inr rfl|assumption):
  Kk X W (.Name x pos) (yG i):=(Z0 _ (Aa a hi j b) (λα m S σ H d v Q k sl c q=>Post.here q k (sl.set c)))
noncomputable def aU:List MV->Rho->Sto->R Rho
 |[],ρ,S=>.ok ρ S
 |_,_,_=>.no
noncomputable def yC(a:(MV->Rho->Sto->R Rho))(b:List MV->Rho->Sto->R Rho):List MV->Rho->Sto->R Rho
 |d::ds,ρ,S=>(a d ρ S).bind λj k=>b ds j k
 |_,_,_=>.no
def C4:Kl X W [] aU:=(Z0 _ Ab (λα k S σ H a j Q c sl b q=>by
 cases a with
 |nil=>exact⟨b.isnil,Post.here q c sl⟩
 |cons d a=>exact q.elim))
def Rk(j:Kk X W e g1)(b:Kl X W es g2)(hs:(assignEach (e::es) X.env).map (·.2)=assign e X.env::(assignEach es X.env).map (·.2):=by rfl):Kl X W (e::es) (yC g1 g2):=by
 refine j.a λI j o=>?_;refine b.a λG b D=>?_;refine Z0 _ (TD j b hs) (λα s S σ H k J Q C sl F q=>?_)
 cases k with
 |nil=>exact q.elim
 |cons d k=>
  refine F.uncons.b λv r K a l=>?_;subst K;refine Zy v r rfl (o α s S σ H d v _ C sl a (Post.bind q λu p y c A e m E B w=>D c p y u A k r Q E B (l.ext m) (w.shift m)))
noncomputable def PZ(n:Nat)(a:List MV->Rho->Sto->R Rho):MV->Rho->Sto->R Rho
 |.tup ds,ρ,S=>if ds.length=n then a ds ρ S else .no
 |_,_,_=>.no
def C5{k:Nat}(c:X.calm=true)(h:Kl X W es g2)
  (hn:(assignEach es X.env).length=n:=by rfl) (hst:(assignEach es X.env).findIdx? (·.1)=none:=by rfl):Kk X W (.Tuple es k pos) (PZ n g2):=by
 refine h.a λt h k=>?_;refine Z0 _ (Iv c h hn hst) (λα u S σ H d v Q j sl m q=>?_);unfold PZ at q;split at q
 .split at q
  .rename_i o;refine(yN m).b λa b y s l=>?_;subst y;exact Zr a b rfl s (by rw[(l.length)];exact o) (k α u S σ H _ b Q j sl l q)
  .exact q.elim
 .exact q.elim
noncomputable def cG(r:Er)(S:Sto):R MV:=match r with
 |.val d=>.ok d S
 |.new ds=>.ok (.loc S.length) (S++[.lst ds])
def eQ{g:Gm}(w:Wd g α S H)(x:Ext α0 H0 α H)(d:DenE g.K H0 α H r v):
  ∃d' S' α',cG r S=.ok d' S'/\Ext α0 H0 α' H/\Ex0 α H α' H/\Wd g α' S' H/\Den g.K α' H d' v:=by
 cases r with
 |val d'=>exact Zv d' S (α) ⟨rfl,x,⟨⟨[],by simp⟩,λ_ _ h=>h,λ_ _ _ h=>h⟩,w,d.1⟩
 |new ds=>
  obtain⟨⟨c,m,rfl,j,a,k⟩,b⟩:=d;exact Zv _ _ _ ⟨rfl,w.enterx x (b c rfl) a,Ex0.grow α [c] H,w.enter j a k,vM (by rw[<-w.len,ð (à _),sub_self];rfl)⟩
def JI(a:Rho)(i:Nat)(r:Er)(S:Sto):R Fl:=(cG r S).bind λd b=>.ok (.next (a.set i (some d))) b
def BR(i){a:Pos}(o:X.N.Nodup)(b:zP X W e f)(hi:X.N[i]? =some x:=by rfl)(A:Loc (X.env.scope) x:=by first |exact Or.inl rfl|exact Or.inr rfl)
  (hs:swapsWith e (some (.Name x a)) pos.line X.env=pure false:=by rfl) (hf:Q2 X x:=by first |exact .inl rfl|exact .inr rfl|assumption):
  IA X W (.Assign [.Name x a] e pos) (λj S=>(f j S).bind (JI j i)):=by
 refine b.a λt b k=>?_;refine Z0 _ (Zi o hi A b hs hf) (λα j S σ H D B sl q=>k α j S σ H _ B sl (q.expr λu r J E s e m G w c=>?_));refine(eQ G m w).o λL K α' y F v C I=>?_;unfold JI at c;rw[y]at c;exact c _ α' s F C (((sl.ext m).ex0 v).set I)
def Fe(gf:(MV->Rho->Sto->R Rho))(c:Rho)(r:Er)(S:Sto):R Fl:=(cG r S).bind λd b=>(gf d c b).bind λa j=>.ok (.next a) j
def C6(m:zP X W e f)(o:Kk X W tg gf)(hs:swapsWithSole [tg] e pos.line X.env=pure false:=by rfl)(hw:swappedStores [tg] e X.env=pure none:=by rfl)
  (h1:(assignEach [tg] X.env).map (·.2)=[assign tg X.env]:=by rfl):IA X W (.Assign [tg] e pos) (λj S=>(f j S).bind (Fe gf j)):=by
 refine m.a λt m k=>?_;refine o.a λK o U=>?_;refine Z0 _ (Zh m o hs hw h1) (λα j S σ H D T sl q=>k α j S σ H _ T sl (q.expr λu r S1 C J e s Z M a=>?_));refine(eQ Z s M).o λy v α' Q G L Y E=>?_;unfold Fe at a;rw[Q]at a;have a:PostS X.g W α H D ((gf y j v).bind λB w=>.ok _ w):=a;exact U α' j v σ J y u _ Y ((sl.ext s).ex0 L) E ((PostS.shift G a).expr λc N w b F e2 I P A O=>O c b F I P A)
structure Wk where
 ds:List MV
 gs:List (Nat×List MV)
def stay(gs:V0)(S:Sto):Prop:= ∀p∈gs,S[p.1]? =some (.lst p.2)
def zAV(g:Gm)(J:It)(P:List Addr->Sto->Hp->Prop)(ds:Q0):Prop:= ∀i α S H,P α S H->Wd g α S H->(i<↑13->J.go i H/\ ∀x H',J.yld i H x H'->Ext α H α H'/\Wd g α S H'/\P α S H'/\ ∃d,ds[i]? =some d/\Den g.K α H' d x)/\(↑13<=i->J.stop i H)
structure WkD(g:Gm)(α:B9)(S:Sto)(H:Hp)(k:Wk)(J:It)(P:List Addr->Sto->Hp->Prop):Prop where
 it:zAV g J P k.ds
 here:P α S H
 stays: ∀α1 S1 H1 α2 S2 H2,P α1 S1 H1->Ext α1 H1 α2 H2->Wd g α2 S2 H2->stay k.gs S2->P α2 S2 H2
 st:stay k.gs S
instance:Dn Wk It:=⟨λg _ α S H k J=> ∃P,WkD g α S H k J P,λ_ q=>q⟩
abbrev UC(X:Cx)(W:XW)(tg iter:Expr)(f:Rho->Sto->R Wk):Prop:=Jd X W (PI X tg iter) f
variable{tg iter:Expr}
theorem JK:zAV X.g (Itl X.K a) (λα S H=> ∃vs,SqL X.K H a vs/\DenL X.K α H ds vs) ds:=by intro i α S H ⟨vs,s,l⟩ w;have j:=(l.length);refine⟨λhi=>?_,λhi=>⟨vs,s,by lia⟩⟩;refine⟨(Zy vs _ s (gE #[0])),λx H' y=>?_⟩;obtain⟨rfl,y⟩:=y;refine(l.get (y vs s)).a λd c b=>?_;exact⟨Ext.refl _ _,w,(Z0 vs s l),d,c,b⟩
noncomputable def FA:Er->Sto->R Wk
 |.new ds,S=>.ok ⟨ds,[]⟩ S
 |.val (.scr ds),S=>.ok ⟨ds,[]⟩ S
 |.val (.loc l),S=>match S[l]? with
  |some (.lst ds)=>.ok ⟨ds,[(l,ds)]⟩ S
  |_=>.no
 |_,_=>.no
def jB:stay [] S:=λp h=>by simp at h
def Rm(Z:zP X W iter f):UC X W tg iter (λρ S=>(f ρ S).bind FA):=by
 refine Z.a λt Z k=>?_;refine Z0 _ (Px Z) (λα ρ S σ H Rc wd sl q=>k α ρ S σ H _ wd sl (q.bind λu p S1 ab H1 e x1 Y d1 B=>?_))
 replace B:=B.shift x1
 unfold FA at B;split at B
 .rename_i S0 G;obtain⟨⟨b,v,rfl,I,h2,U⟩,h4⟩:=d1;refine ZB b rfl ⟨v,.of I⟩ (B.here Y ⟨λj D w=> ∃v,SqL X.K w b v/\DenL X.K j w G v/\w b=some (.lst v)/\b∉j,?_,⟨v,.of I,U,I,h2⟩,?_,jB⟩)
  .intro i j D w ⟨m,E,C,A,P⟩ M;obtain⟨F,Q⟩:=JK i j D w (Z0 m E C) M;refine⟨λhi=>⟨(F hi).1,λx H' y=>?_⟩,Q⟩;refine((F hi).2 x H' y).e λT O j3 N=>?_;obtain⟨rfl,_⟩:=y;exact⟨T,O,⟨m,E,C,A,P⟩,N⟩
  .intro j D w L S3 H3 ⟨m,E,C,A,P⟩ x w3 _;exact⟨m,.of (x.keep b _ A P),C.ext x,x.keep b _ A P,x.out A P⟩
 .rename_i S0 G;refine(PQ d1.1).b λa v V s l=>?_;subst V;refine⟨a,rfl,⟨v,s.l⟩,B.here Y ⟨λj D w=> ∃v,SqL X.K w a v/\DenL X.K j w G v/\SqF X.K w a v,?_,(ZB v s.l l s),?_,jB⟩⟩
  .intro i j D w ⟨m,E,C,A⟩ M;obtain⟨F,Q⟩:=JK i j D w (Z0 m E C) M;refine⟨λhi=>⟨(F hi).1,λx H' y=>?_⟩,Q⟩;refine((F hi).2 x H' y).e λT O j3 N=>?_;obtain⟨rfl,_⟩:=y;exact⟨T,O,(ZB m E C A),N⟩
  .intro j D w L S3 H3 ⟨m,E,C,A⟩ x w3 _;exact ZB m ((x.sqF A).l) (C.ext x) (x.sqF A)
 .rename_i S0 n;refine(eW d1.1).a λa ac h=>?_;subst ac;refine(Y.of h).a λo I h2=>?_;rw[I]at B
  cases o with
  |lst G=>
   refine h2.a λv U l=>?_;refine ZB a rfl ⟨v,.of U⟩ (Post.here B Y ⟨λj D w=> ∃v,SqL X.K w a v/\DenL X.K j w G v/\j[n]? =some a,?_,(ZB v (.of U) l h),?_,?_⟩)
   .intro i j D w ⟨m,E,C,A⟩ M;obtain⟨F,Q⟩:=JK i j D w (Z0 m E C) M;refine⟨λhi=>⟨(F hi).1,λx H' y=>?_⟩,Q⟩;refine((F hi).2 x H' y).e λT O j3 N=>?_;obtain⟨rfl,_⟩:=y;exact⟨T,O,(ZB m E C A),N⟩
   .intro j D w L S3 H3 ⟨m,E,C,A⟩ x w3 hs;have J:=x.at A;have:=w3.obj n a _ J (hs (n,G) (by simp));refine this.a λaa b1 b2=>?_;exact ZB aa (.of b1) b2 J
   .intro p hp;have:=by simpa using hp
    subst this;exact I
  |dic G=>exact B.elim
  |ins c fs=>exact B.elim
  |rcd c fs=>exact B.elim
  |fdc _=>exact B.elim
 .exact B.elim
noncomputable def Fg:Er->Sto->R Wk
 |.val (.tup ds),S=>.ok ⟨ds,[]⟩ S
 |_,_=>.no
def C7(m:zP X W iter f):UC X W tg iter (λv S=>(f v S).bind Fg):=by
 refine m.a λt m k=>?_;refine Z0 _ (Zl m) (λα v S σ H Y J sl q=>k α v S σ H _ J sl (q.bind λu p T C U e A L I c=>?_))
 replace c:=c.shift A
 unfold Fg at c;split at c
 .rename_i N o;refine(nF I.1).b λa b V s l=>?_;subst V;exact ZB a rfl ⟨b,s⟩ (c.here L ⟨_,(show zAV X.g (Itt X.K a) (λα S H=> ∃b,SqT X.K H a b/\DenL X.K α H o b) o by intro i α S H ⟨b,s,l⟩ w;have Z:=(l.length);refine⟨λhi=>?_,λhi=>⟨b,s,by lia⟩⟩;refine⟨(Zy b _ s (gE #[0])),λx H' y=>?_⟩;obtain⟨rfl,y⟩:=y;refine(l.get (y b s)).a λd E D=>?_;exact⟨Ext.refl _ _,w,(Z0 b s l),d,E,D⟩),(Z0 b s l),λB P O F S3 Q ⟨j,G,M⟩ x w3 _=>(Z0 j (x.sqT G) (M.ext x)),jB⟩)
 .exact c.elim
noncomputable def gH:List Er->Sto->R Wk
 |[.val (.int j)],S=>if -(2 ^ 62)<=j/\j<2 ^ 62 then .ok ⟨(List.range j.toNat).map λk=>.int (k:Nat),[]⟩ S else .no
 |_,_=>.no
variable{p:Pos}{a:Expr}
def JL{K:O0}(d:ArgsE K H0 α H [r] vs): ∃v,vs=[v]/\DenX K α H r v:=by
 cases d with
 |cons a n l=>cases l;exact Z0 _ rfl a.1
def Fi(D:Gl X "range")(A:X.mg "range"=none)(c:GY X W [a] af)(hs:starEach [a] X.env=[((false,eval a X.env))]:=by rfl):UC X W tg (.Call (.Name "range" p) [a] [] pos) (λm S=>(af m S).bind gH):=by
 refine c.a λt c k=>?_;refine Z0 _ (Dz D A c hs) (λα m S σ H L C sl q=>k α m S σ H _ C sl (q.bind λI M J u K e s F B b=>?_))
 replace b:=b.shift s
 unfold gH at b;split at b
 .split at b
  .rename_i G j o;refine(JL B).a λv N E=>?_;subst N;cases yK E;have:=(show zAV X.g (zCZ 0 (j.toNat)) (λ_ _ _=>True) ((List.range (j.toNat)).map λk=>.int (0+(k:Nat))) by intro i α S H _ w;refine⟨λhi=>⟨show i<(j.toNat) by simpa using hi,λv H' y=>?_⟩,λhi=>by show (j.toNat)<=i;simpa using hi⟩;obtain⟨rfl,y⟩:=y;refine⟨Ext.refl _ _,w,trivial,_,by rw[î,getElem?_range (by simpa using hi)];rfl,?_⟩;rw[y];exact yQ _);simp only[Int.zero_add]at this;exact⟨j,rfl,o.1,o.2,b.here F ⟨_,this,trivial,λ_ _ _ _ _ _ _ _ _ _=>trivial,jB⟩⟩
  .exact b.elim
 .exact b.elim
open Classical in
noncomputable def dU(gf:(MV->Rho->Sto->R Rho))(body:AY)(gs:V0):List MV->AY
 |[],ρ,S=>.ok (.next ρ) S
 |d::ds,ρ,S=>(gf d ρ S).bind λk m=>(body k m).bind λfl j=>match fl with
  |.next ρ'=>if stay gs j then dU gf body gs ds ρ' j else .no
  |.cont ρ'=>if stay gs j then dU gf body gs ds ρ' j else .no
  |.brk ρ'=>.ok (.next ρ') j
  |.ret r=>.ok (.ret r) j
open Classical in
def C8{ae:Rho->Sto->R Wk}{gf:(MV->Rho->Sto->R Rho)}(hp:PassesOwn ↑5 X.A X.env X.xe)(hc:X.calm=true)(hi:UC X W tg iter ae)(hg:Kk X W tg gf)(hb:tI X W as F)
  (hs: ∀y,foldedSetIterable iter X.env y=pure y:=by intro _;rfl):IA X W (.For tg iter as [] pos) (λρ S=>(ae ρ S).bind λk S1=>dU gf F k.gs k.ds ρ S1):=by
 obtain⟨wi,hi,ki⟩:=hi;obtain⟨aj,hg,kg⟩:=hg;obtain⟨tb,hb,kb⟩:=hb;refine⟨_,Zm hp hc hi hg hb hs,λα ρ S σ H D wd sl q=>ki α ρ S σ H _ wd sl (q.expr λJ k S1 af H1 e x1 w1 d1 q1=>?_)⟩;obtain⟨P,hP⟩:=d1;have ag:=sl.ext x1
 replace q1:=PostS.shift x1 q1
 refine⟨λn m C Q=>m=(k.ds.length) - n/\n<=(k.ds.length)/\ ∃b M T,Wd X.g b T Q/\Slots X.K b Q M C/\P b T Q/\PostS X.g W b Q D (dU gf F k.gs (k.ds.drop n) M T),⟨_,rfl,zero_le _,af,ρ,S1,w1,ag,hP.here,by simpa using q1⟩,?_⟩;rintro n m C Q ⟨rfl,hn,b,M,T,w2,aa,p2,Z⟩;obtain⟨i1,i2⟩:=hP.it n b T Q p2 w2;by_cases E:n<(k.ds.length)
 .obtain⟨go,yl⟩:=i1 E;refine .inr ⟨go,λab I=> ∃o L S3,Wd X.g o S3 I/\Slots X.K o I L ab/\P o S3 I/\PostS X.g W o I D (dU gf F k.gs (k.ds.drop (n+1)) L S3),λab I ⟨o,L,S3,h3⟩=>⟨(k.ds.length) - (n+1),by omega,rfl,E,o,L,S3,h3⟩,λv I y=>?_⟩;obtain⟨x3,w3,p3,d,hd,dv⟩:=yl v I y;have U:k.ds.drop n=d::k.ds.drop (n+1):=by rw[List.drop_eq_getElem_cons E];have:=gE E;rw[hd]at this;rw[<-å this]
  rw[U]at Z;unfold dU at Z
  replace Z:=PostS.shift x3 Z
  refine kg b M T C I d v _ w3 (aa.ext x3) dv (Z.expr λai ah S4 G H4 e4 x4 w4 s4 q4=>?_);have p4: ∀a c H5,Ext G H4 a H5->Wd X.g a c H5->stay k.gs c->P a c H5:=λa c H5 B u s5=>hP.stays b T I a c H5 p3 (x4.trans B) u s5;refine kb G ah S4 ai H4 _ w4 s4 ((PostS.shift x4 q4).stmt ?_ ?_ ?_ ?_)
  .intro s c O a H5 e5 B u s5 Y;have j:PostS X.g W G H4 D (if stay k.gs c then dU gf F k.gs (k.ds.drop (n+1)) s c else .no):=Y;split at j
   .rename_i N;exact⟨a,s,c,u,s5,p4 a c H5 B u N,PostS.shift B j⟩
   .exact j.elim
  .intro r c v5 a H5 e5 B u d5 Y;exact Y v5 a H5 B u d5
  .intro s c O a H5 e5 B u s5 Y;exact Y O a H5 B u s5
  .intro s c O a H5 e5 B u s5 Y;have j:PostS X.g W G H4 D (if stay k.gs c then dU gf F k.gs (k.ds.drop (n+1)) s c else .no):=Y;split at j
   .rename_i N;exact⟨a,s,c,u,s5,p4 a c H5 B u N,PostS.shift B j⟩
   .exact j.elim
 .have e:n=k.ds.length:=by omega
  subst e;refine .inl ⟨i2 (à _),?_⟩;rw[drop_length]at Z;exact Z C b Q (Ext.refl _ _) w2 aa
noncomputable def eX(t:AZ)(b:AY):Nat->AY
 |0,_,_=>.no
 |n+1,ρ,S=>(t ρ S).bind λk j=>if k=true then(b ρ j).bind λfl S2=>match fl with
   |.next ρ'=>eX t b n ρ' S2
   |.cont ρ'=>eX t b n ρ' S2
   |.brk ρ'=>.ok (.next ρ') S2
   |.ret r=>.ok (.ret r) S2
  else .ok (.next ρ) j
def Km(N)(hp:PassesOwn ↑5 X.A X.env X.xe)(T:BB X W c tf)(U:tI X W as F):IA X W (.While c as [] pos) (λQ S=>eX tf F N Q S):=by
 refine T.a λtc T kc=>?_;refine U.a λtb U kb=>?_;refine Z0 _ (Iy hp T U) (λα Q S σ H D wd sl q=>⟨λm k G=> ∃b j M,Wd X.g b M G/\Slots X.K b G j k/\PostS X.g W b G D (eX tf F m j M),(Zw N (α) Q S ⟨wd,sl,q⟩),?_⟩);rintro m k G ⟨b,j,M,w1,C,Z⟩
 cases m with
 |zero=>exact Z.elim
 |succ n=>
  refine kc b j M k G _ w1 C (Z.expr λu p S2 E Y e2 O w2 d2 I=>?_);subst d2
  replace I:=PostS.shift O I
  cases u with
  |false=>rw[iN0 xF0]at I ⊢; exact I k E Y (Ext.refl _ _) w2 (C.ext O)
  |true=>
   refine⟨λaf H3=> ∃ab ae S3,_,λaa H' h=>(Z0 n (ę n) h),kb E j S2 k Y _ w2 (C.ext O) (I.stmt ?_ ?_ ?_ ?_)⟩
   .intro o J y a H5 P s v L B;exact⟨a,o,J,v,L,PostS.shift s B⟩
   .intro r J v5 a H5 P s v d5 B;exact B v5 a H5 s v d5
   .intro o J y a H5 P s v L B;exact B y a H5 s v L
   .intro o J y a H5 P s v L B;exact⟨a,o,J,v,L,PostS.shift s B⟩
end
noncomputable def noX:R β->R β
 |.ok b S=>.ok b S
 |_=>.no
theorem rB(b:β)(S):noX (R.ok b S)=.ok b S:=rfl
def Post.bindY[Dn β τ][Dn γ υ]{g:Gm}{W:XW}{α α':B9}{H H':Hp}(x:(Ext α H α' H')){m:R β}{k:β->Sto->R γ}{Q:υ->Hp->Prop}{a:τ->Hp->Prop}(q:Post g W α H ((noX m).bind k) Q)
  (f: ∀u b y j v,m=.ok b y->Ext α' H' j v->Wd g j y v->Dn.d g H' j y v b u->Post g W α H (k b y) Q->a u v):Post g W0 α' H' m a:=by
 cases m with
 |ok b S=>exact λu j v x w d=>f u b S j v rfl x w d q
 |exc c fs S=>exact q.elim
 |no=>exact q
theorem R.bind_assoc(m:R β)(k1)(k2:γ->Sto->R δ):(m.bind k1).bind k2=m.bind λb S=>(k1 b S).bind k2:=by cases m<;>rfl
noncomputable def WO(nt:Nat)(a:Db)(b:Rho):Rho:=List.replicate nt none++a.map λi=>(b[i]?).join
open Classical in
def zW(gf:(MV->Rho->Sto->R Rho))(cf:AZ)(ef:AX)(ρb:Rho)(gs:V0):List MV->Sto->R (List MV)
 |[],S=>.ok [] S
 |d::ds,S=>(noX (gf d ρb S)).bind λj u=>(noX (cf j u)).bind λk m=>
  if k=true then(noX (ef j m)).bind λr S2=>(cG r S2).bind λy S3=>if stay gs S3 then(zW gf cf ef ρb gs ds S3).bind λout q=>.ok (y::out) q else .no
  else if stay gs m then zW gf cf ef ρb gs ds m else .no
theorem Fj{K:O0}(q:Slots K α H ρ σ)(nt)(idx)(τ)(a:τ.length=nt):Slots K α H (WO nt idx ρ) (τ++EW σ idx):=by
 refine⟨by unfold WO;rw[lA,lA,iL,lM0,Ģ,a],λi d e=>?_⟩;unfold WO at e;by_cases hi:i<nt
 .rw[è (by rw[Ģ];exact hi),List.getElem?_replicate]at e;split at e<;>cases e
 .rw[ð (by rw[Ģ];lia),Ģ,î]at e
  cases z:idx[i - nt]? with
  |none=>rw[z]at e;cases e
  |some k=>
   rw[z]at e;have b:(ρ[k]?).join=some d:=å e
   cases c:ρ[k]? with
   |none=>rw[c]at b;cases b
   |some o=>
    rw[c]at b;subst b;refine(q.slot k d c).a λv m j=>?_;refine Z0 v ?_ j;rw[ð #[0],a];unfold EW;rw[î,z];show some (σ[k]?).join=some _;rw[m];rfl
def Keeps(nt:Nat)(σ:St)(Q:St->Hp->Prop):St->Hp->Prop:=λa H'=>a.length=σ.length->(∀j,nt<=j->a[j]? =σ[j]?)->Q a H'
def Kn(nt:Nat)(X:Cx)(W:XW)(tg:Expr)(gf:(MV->Rho->Sto->R Rho)):Prop:=
 ∃t,PG X tg t/\ ∀α a S σ H d v Q,Wd X.g α S H->Slots X.K α H a σ->Den X.K α H d v->Post X.g W α H (gf d a S) (Keeps nt σ Q)->t v σ H Q
def Ko(nt:Nat)(X:Cx)(W:XW)(a:N0)(gf:List MV->Rho->Sto->R Rho):Prop:=
 ∃t,X9 X a t/\ ∀α c S σ H j b Q,Wd X.g α S H->Slots X.K α H c σ->DenL X.K α H j b->Post X.g W α H (gf j c S) (Keeps nt σ Q)->t b σ H Q
section
variable{X:Cx}{W:XW}{pos:Pos}{nt:Nat}
theorem Ro(i)(a:X.N.Nodup)(hi:X.N[i]? =some x:=by rfl)(k:Loc (X.env.scope) x:=by first |exact Or.inl rfl|exact Or.inr rfl)(b:Q2 X x:=by first |exact .inl rfl|exact .inr rfl|assumption)(c:i<nt:=by decide):
  Kn nt X W (.Name x pos) (yG i):=(Z0 _ (Aa a hi k b) (λα s S σ H d v Q m sl o q=>Post.here q m (sl.set o) (by rw[ā]) λj u=>by rw[ñ #[0]]))
def C9:Ko nt X W [] aU:=(Z0 _ Ab (λα k S σ H a j Q c sl b q=>by
 cases a with
 |nil=>exact⟨b.isnil,Post.here q c sl rfl λ_ _=>rfl⟩
 |cons d a=>exact q.elim))
def Post.keeps{m:R Rho}(v:σ1.length=σ.length)(o: ∀j,nt<=j->σ1[j]? =σ[j]?)(q:Post g W α H m (Keeps nt σ Q)):Post g W α H m (Keeps nt σ1 Q):=by
 cases m with
 |ok b S=>exact λu a s x w d y A=>q u a s x w d (y.trans v) λj k=>(A j k).trans (o j k)
 |exc c fs S=>exact q
 |no=>exact q
def Rp(k:Kn nt X W e g1)(c:Ko nt X W es g2)(hs:(assignEach (e::es) X.env).map (·.2)=assign e X.env::(assignEach es X.env).map (·.2):=by rfl):Ko nt X W (e::es) (yC g1 g2):=by
 refine k.a λJ k b=>?_;refine c.a λI c E=>?_;refine Z0 _ (TD k c hs) (λα w S σ H o K Q D sl G q=>?_)
 cases o with
 |nil=>exact q.elim
 |cons d o=>
  refine G.uncons.b λv r L a l=>?_;subst L;refine Zy v r rfl (b α w S σ H d v _ D sl a (Post.bind q λu p A j B e s F C y b m=>E j p A u B o r Q F C (l.ext s) (Post.keeps b m (y.shift s))))
def D2{k:Nat}(c:X.calm=true)(h:Ko nt X W es g2)
  (hn:(assignEach es X.env).length=n:=by rfl) (hst:(assignEach es X.env).findIdx? (·.1)=none:=by rfl):Kn nt X W (.Tuple es k pos) (PZ n g2):=by
 refine h.a λt h k=>?_;refine Z0 _ (Iv c h hn hst) (λα u S σ H d v Q j sl m q=>?_);unfold PZ at q;split at q
 .split at q
  .rename_i o;refine(yN m).b λa b y s l=>?_;subst y;exact Zr a b rfl s (by rw[(l.length)];exact o) (k α u S σ H _ b Q j sl l q)
  .exact q.elim
 .exact q.elim
end
abbrev QA(X:Cx)(W:XW)(a:N0)(f:AZ):Prop:=Jd X W (Eo X a) f
section
variable{X:Cx}{W:XW}{iter:Expr}{c:Expr}{pos:Pos}
def Rq:QA X W [] (λ_ S=>.ok true S):=(Z0 _ (λ_ _ _ H _ I h=>wpAny_tests_nil (Z0 H I h)) (λα b S σ H Q a sl q=>q.here a rfl))
def Rr(h:BB X W c tf):QA X W [c] tf:=let ⟨t,h,k⟩:=h;(Z0 t (λpins s σ H Q I q=>wpAny_tests_one (h pins s σ H Q I q)) k)
open Classical in
def Ao{C:Cx->Prop}{ai tg:Expr}{ae:N0}{sc:Scope}{aq:Rho->Sto->R Wk}{cf:AZ}{ef:AX}{gf:(MV->Rho->Sto->R Rho)}(ak:Scope)(N:D0)(T:D0)(a:Db)
  (hi:Jd X W (Z9 C X tg iter) aq) (hCx: ∀c B Z fp pins σ,Inv X pins σ Z B->C (zM X sc T a c B Z fp))
  (hg: ∀C B G fp,([]++T++a.map λi=>(N[i]?).getD Str.empty).Nodup->Kn (T.length) (zM X sc T a C B G fp) W0 tg gf)
  (hc: ∀C B G fp,QA (zM X sc T a C B G fp) W0 ae cf) (he: ∀C B G fp,zP (zM X sc T a C B G fp) W0 ai ef)
  (e1:(X.env.scope)=ak:=by rfl) (e2:X.N=N:=by rfl) (hB:tP ak N sc a=true:=by decide+kernel) (hN:([]++T++a.map λi=>(N[i]?).getD Str.empty).Nodup:=by decide+kernel)
  (hs: ∀y,foldedSetIterable iter X.env y=pure y:=by intro _;rfl):
  Jd (β:=Er) (τ:=V) X W (λt=>PE X (.ListComp ai [⟨tg,iter,ae,0⟩] sc pos) t/\PU X (.ListComp ai [⟨tg,iter,ae,0⟩] sc pos) t) (λU S=>(aq U S).bind λk S1=>if (k.ds.length)<1000000 then(zW gf cf ef (WO (T.length) a U) k.gs k.ds S1).bind λout S2=>.ok (.new out) S2 else .no):=by
 obtain⟨wi,hi,ki⟩:=hi;subst e1 e2;have a4:(1000000:Nat)<sizeLine:=by rw[ý];decide
 have aw: ∃t,(∀C B G fp,PG (zM X sc T a C B G fp) tg t)/\ ∀α U S σ H d v Q,Wd X.g α S H->Slots X.K α H U σ->Den X.K α H d v->Post X.g W0 α H (gf d U S) (Keeps (T.length) σ Q)->t v σ H Q:=by refine⟨λv σ H Q=> ∃α U S d,Wd X.g α S H/\Slots X.K α H U σ/\Den X.K α H d v/\Post X.g W0 α H (gf d U S) (Keeps (T.length) σ Q),λC B G fp pins s σ H v u Q I r ⟨α,U,S,d,h1,h2,h3,h4⟩=>?_,λα U S σ H d v Q h1 h2 h3 h4=>⟨α,U,S,d,h1,h2,h3,h4⟩⟩;obtain⟨t,ht,kt⟩:=hg C B G fp hN;exact ht pins s σ H v u Q I r (kt α U S σ H d v Q h1 h2 h3 h4)
 obtain⟨a0,aj,kg⟩:=aw;refine⟨_,⟨Qt T a hi hCx hB aj (λC B G fp=>(Ć (hc C B G fp)).1) (λC B G fp=>(Ć (he C B G fp)).1) hs,Qv T a hi hCx hB aj (λC B G fp=>(Ć (hc C B G fp)).1) (λC B G fp=>(Ć (he C B G fp)).1) hs⟩,λα U S σ H Q wd sl q=>ki α U S σ H _ wd sl (q.bind λJ k S1 au G e1 x1 w1 d1 q1=>?_)⟩;obtain⟨P,hP⟩:=d1;split at q1
 .rename_i ax
  refine⟨λn m ys Z=>m=(k.ds.length) - n/\n<=(k.ds.length)/\ys.length<=n/\ ∃E S2,Ext α H E Z/\Wd X.g E S2 Z/\P E S2 Z/\ ∃w,DenL X.K E Z w ys/\Post X.g W α H ((zW gf cf ef (WO (T.length) a U) k.gs (k.ds.drop n) S2).bind λo F=>.ok (Er.new (w++o)) F) Q,
   ⟨_,rfl,zero_le _,à _,au,S1,x1,w1,hP.here,[],yA,by simpa using q1⟩,?_⟩
  rintro n m ys Z ⟨rfl,hn,hy,E,S2,x2,w2,p2,w,l,q2⟩;obtain⟨i1,i2⟩:=hP.it n E S2 Z p2 w2;refine⟨by omega,?_⟩;by_cases L:n<(k.ds.length)
  .obtain⟨go,yl⟩:=i1 L;refine .inr ⟨go,by omega,λv H3 y τ O=>?_⟩;obtain⟨x3,w3,p3,d,hd,dv⟩:=yl v H3 y;have ah:k.ds.drop n=d::k.ds.drop (n+1):=by rw[List.drop_eq_getElem_cons L];have:=gE L;rw[hd]at this;rw[<-å this]
   rw[ah]at q2;unfold zW at q2;have av:=Fj (sl.ext (x2.trans x3)) (T.length) a τ O;refine kg E (WO (T.length) a U) S2 _ H3 d v _ w3 av dv ?_;rw[R.bind_assoc]at q2;refine q2.bindY (x2.trans x3) λaa ao S4 ag H4 e4 x4 w4 s4 q4 ab ar=>⟨⟨aa.take (T.length),?_,?_⟩,λC B fp=>?_⟩
   .refine Ņ λj=>?_;have ay:aa.length=(T.length)+a.length:=by rw[ab,lA,iL,O]
    by_cases hj:j<(T.length)
    .rw[è (by rw[lT];omega),Ŋ hj]
    .rw[ar j (by omega),ð (by omega),ð (by rw[lT];omega),O,lT,min_eq_left (by omega)]
   .rw[lT,ab,lA,iL,O];omega
   have Y:Ext α H ag H4:=(x2.trans x3).trans x4;have p4: ∀A S5 H5,Ext ag H4 A H5->Wd X.g A S5 H5->stay k.gs S5->P A S5 H5:=λA S5 H5 M w5 s5=>hP.stays E S2 H3 A S5 H5 p3 (x4.trans M) w5 s5;rw[R.bind_assoc]at q4;refine(Ć (hc C B G fp)).2 ag ao S4 aa H4 _ w4 s4 (q4.bindY Y λb5 a3 S5 A H5 e5 M w5 d5 q5=>?_);cases d5
   cases b5 with
   |false=>
    rw[iN0 xF0]at q5 ⊢;split at q5
    .rename_i af;exact⟨(k.ds.length) - (n+1),by omega,rfl,L,by omega,A,S5,Y.trans M,w5,p4 A S5 H5 M w5 af,w,(l.ext (x3.trans x4)).ext M,q5⟩
    .exact q5.elim
   |true=>
    rw[iP rfl,R.bind_assoc]at q5;rw[iP rfl];refine(Ć (he C B G fp)).2 A ao S5 aa H5 _ w5 (s4.ext M) (q5.bindY (Y.trans M) λy6 r6 S6 az H6 e6 x6 w6 d6 q6=>?_);obtain⟨d',F,α',e7,x7,y7,w7,de⟩:=eQ w6 x6 d6;rw[e7]at q6;have q6:Post X.g W α H ((if stay k.gs F then(zW gf cf ef (WO (T.length) a U) k.gs (k.ds.drop (n+1)) F).bind λout S4=>.ok (d'::out) S4 else .no).bind λo F=>.ok (Er.new (w++o)) F) Q:=q6;split at q6
    .rename_i af;refine⟨(k.ds.length) - (n+1),by omega,rfl,L,by rw[lA,lS];omega,α',F,(Y.trans M).trans x7,w7,p4 α' F H6 (M.trans x7) w7 af,w++[d'],((l.ext (x3.trans x4)).ext (M.trans x7)).append (zV de yA),?_⟩;rw[R.bind_assoc]at q6;have e8:(λ(o:Q0) (F:Sto)=>R.ok (Er.new ((w++[d'])++o)) F)=(λ(b:Q0) S=>(R.ok (d'::b) S).bind λo F=>.ok (Er.new (w++o)) F):=by funext o F;show _=R.ok (Er.new (w++(d'::o))) F;rw[aA];rfl
     rw[e8];exact q6
    .exact q6.elim
  .have e:n=k.ds.length:=by omega
   subst e;rw[drop_length]at q2;have q3:Post X.g W α H (.ok (Er.new (w++[])) S2) Q:=q2;rw[aN]at q3;exact .inl ⟨i2 (à _),λD hD=>(q3.shift x2).newl w2 hD l⟩
 .exact q1.elim
open Classical in
def Ap{s tg:Expr}{c:N0}{o:Scope}{q:Rho->Sto->R Wk}{cf:AZ}{ef:AX}{gf:(MV->Rho->Sto->R Rho)}(b:Scope)(N:D0)(T:D0)(a:Db)
  (hi:UC X W tg iter q) (hcalm:X.calm=true)
  (hg: ∀C j m fp,([]++T++a.map λi=>(N[i]?).getD Str.empty).Nodup->Kn (T.length) (zM X o T a C j m fp) W0 tg gf)
  (hc: ∀C j m fp,QA (zM X o T a C j m fp) W0 c cf) (he: ∀C j m fp,zP (zM X o T a C j m fp) W0 s ef)
  (e1:(X.env.scope)=b:=by rfl) (e2:X.N=N:=by rfl) (hB:tP b N o a=true:=by decide+kernel) (hN:([]++T++a.map λi=>(N[i]?).getD Str.empty).Nodup:=by decide+kernel)
  (hs: ∀y,foldedSetIterable iter X.env y=pure y:=by intro _;rfl):
  zP X W (.ListComp s [⟨tg,iter,c,0⟩] o pos) (λu S=>(q u S).bind λk v=>if (k.ds.length)<1000000 then(zW gf cf ef (WO (T.length) a u) k.gs k.ds v).bind λout S2=>.ok (.new out) S2 else .no):=let ⟨t,h,k⟩:=(Ao b N T a hi (λ_ _ _ _ _ _ _=>hcalm) hg hc he e1 e2 hB hN hs);⟨t,h.1,k⟩
open Classical in
def Rt{x:Str}{c b:Pos}(i:Nat)(F:X.N.Nodup){s tg:Expr}{m:N0}{w:Scope}{A:Rho->Sto->R Wk}{cf:AZ}{ef:AX}{gf:(MV->Rho->Sto->R Rho)}(o:Scope)(N:D0)(T:D0)(a:Db)
  (hi:UC X W tg iter A) (hcalm:X.calm=true)
  (hg: ∀C j v fp,([]++T++a.map λi=>(N[i]?).getD Str.empty).Nodup->Kn (T.length) (zM X w T a C j v fp) W0 tg gf)
  (hc: ∀C j v fp,QA (zM X w T a C j v fp) W0 m cf) (he: ∀C j v fp,zP (zM X w T a C j v fp) W0 s ef)
  (G:(X.env.scope)=o:=by rfl) (e2:X.N=N:=by rfl) (hB:tP o N w a=true:=by decide+kernel) (hN:([]++T++a.map λi=>(N[i]?).getD Str.empty).Nodup:=by decide+kernel)
  (hs: ∀y,foldedSetIterable iter X.env y=pure y:=by intro _;rfl)
  (hi2:X.N[i]? =some x:=by rfl) (hx:Loc (X.env.scope) x:=by first |exact Or.inl rfl|exact Or.inr rfl)
  (hsw:swapsWith (.ListComp s [⟨tg,iter,m,0⟩] w pos) (some (.Name x c)) b.line X.env=pure true:=by with_unfolding_all rfl) (hf:Q2 X x:=by first |exact .inl rfl|exact .inr rfl|assumption):
  IA X W (.Assign [.Name x c] (.ListComp s [⟨tg,iter,m,0⟩] w pos) b) (λB S=>((A B S).bind λk J=>if (k.ds.length)<1000000 then(zW gf cf ef (WO (T.length) a B) k.gs k.ds J).bind λout S2=>.ok (.new out) S2 else .no).bind (JI B i)):=by
 obtain⟨t,h,k⟩:=(Ao o N T a hi (λ_ _ _ _ _ _ _=>hcalm) hg hc he G e2 hB hN hs)
 refine⟨_,h.2 i x c b F hi2 hx hf hsw,λα B S σ H D Q sl q=>k α B S σ H _ Q sl (q.expr λu r J K v e I Y P E=>?_)⟩;obtain⟨d',Z,α',G,M,O,U,L⟩:=eQ Y I P;unfold JI at E;rw[G]at E;exact E _ α' v M U (((sl.ext I).ex0 O).set L)
end
mutual
def lo(n:Nat):MV->Prop
 |.loc l=>l<n
 |.tup ds=>CY n ds
 |.scr ds=>CY n ds
 |.obj _ _ ds=>CY n ds
 |_=>True
def CY(n:Nat):List MV->Prop
 |[]=>True
 |d::ds=>lo n d/\CY n ds
end
def loO(n:Nat):MO->Prop
 |.lst ds=>CY n ds
 |.dic kvs=> ∀p∈kvs,lo n p.1/\lo n p.2
 |.ins _ fs=> ∀p∈fs,lo n p.2
 |.rcd _ fs=> ∀p∈fs,lo n p.2
 |.fdc kvs=> ∀p∈kvs,lo n p.1/\lo n p.2
section
variable{K:O0}{α t:B9}{H:Hp}
mutual
theorem Den.back: ∀{d:MV}{v:V},Den K (α++t) H d v->lo α.length d->Den K α H d v
 |.non,_,q,_=>by cases gP q;exact qZ
 |.bl _,_,q,_=>by cases eV q;exact xI _
 |.int _,_,q,_=>by cases yI q;exact yQ _
 |.str _,_,q,_=>by cases yX q;exact eA _
 |.typ _,_,q,_=>by cases cF q;exact Ai _
 |.obj c ns ds,_,q,h=>by obtain⟨a,C,u,vs,o,rfl,e,k,m,j,l⟩:=gQ q;exact Ak e k m j (DenL.back l (by unfold lo at h;exact h))
 |.loc l,_,q,h=>by
  obtain⟨a,rfl,e⟩:=hZ q;have j:l<α.length:=by unfold lo at h;exact h
  rw[è j]at e;exact vM e
 |.tup ds,_,q,h=>by obtain⟨a,vs,rfl,s,l⟩:=yN q;exact rA s (DenL.back l (by unfold lo at h;exact h))
 |.scr ds,_,q,h=>by obtain⟨a,vs,rfl,s,l⟩:=gR q;exact Aj s (DenL.back l (by unfold lo at h;exact h))
theorem DenL.back: ∀{ds:Q0}{vs:List V},DenL K (α++t) H ds vs->CY α.length ds->DenL K α H ds vs
 |[],_,q,_=>by rw[q.isnil];exact yA
 |d::ds,_,q,h=>by obtain⟨v,r,rfl,a,l⟩:=q.uncons;unfold CY at h;exact zV (Den.back a h.1) (DenL.back l h.2)
end
mutual
theorem Den.lo: ∀{d:MV}{v:V},Den K α H d v->lo α.length d
 |.non,_,q=>by unfold M.lo;trivial
 |.bl _,_,q=>by unfold M.lo;trivial
 |.int _,_,q=>by unfold M.lo;trivial
 |.str _,_,q=>by unfold M.lo;trivial
 |.typ _,_,q=>by unfold M.lo;trivial
 |.obj c ns ds,_,q=>by obtain⟨a,C,u,vs,o,rfl,e,j,m,k,l⟩:=gQ q;unfold M.lo;exact DenL.lo l
 |.loc l,_,q=>by obtain⟨a,rfl,e⟩:=hZ q;unfold M.lo;exact(gS.mp e).1
 |.tup ds,_,q=>by obtain⟨a,vs,rfl,s,l⟩:=yN q;unfold M.lo;exact DenL.lo l
 |.scr ds,_,q=>by obtain⟨a,vs,rfl,s,l⟩:=gR q;unfold M.lo;exact DenL.lo l
theorem DenL.lo: ∀{ds:Q0}{vs:List V},DenL K α H ds vs->CY α.length ds
 |[],_,q=>by unfold CY;trivial
 |d::ds,_,q=>by obtain⟨v,r,rfl,a,l⟩:=q.uncons;unfold CY;exact⟨Den.lo a,DenL.lo l⟩
end
def DenK.back: ∀{fs gs},DenK K (α++t) H fs gs->(∀p∈fs,M.lo α.length p.1/\M.lo α.length p.2)->DenK K α H fs gs:=λb=>by
 induction b with
 |nil=>exact(λ_=>.nil)
 |cons k a l ih=>exact(λh=>.cons k (a.back (h _ mF0).2) (ih λp c=>h p (mO _ c)))
def KeyD.lo(h:KeyD k k'):M.lo n k:=by
 unfold KeyD at h;split at h
 .unfold M.lo;trivial
 .unfold M.lo;trivial
 .exact h.elim
def DenK.lo: ∀{fs gs},DenK K α H fs gs-> ∀p∈fs,M.lo α.length p.1/\M.lo α.length p.2:=λb=>by
 induction b with
 |nil=>exact λp h=>by simp at h
 |cons k a l ih=>exact λp h=>(mC.mp h).elim (λe=>by subst e;exact⟨k.lo,a.lo⟩) (ih p)
def DenN.back: ∀{fs xs},DenN K (α++t) H fs xs->(∀p∈fs,M.lo α.length p.1/\M.lo α.length p.2)->DenN K α H fs xs:=λc=>by
 induction c with
 |nil=>exact(λ_=>.nil)
 |cons k e a d r l ih=>exact(λh=>.cons k e (a.back (h _ mF0).1) (d.back (h _ mF0).2) r (ih λp b=>h p (mO _ b)))
def DenN.lo: ∀{fs xs},DenN K α H fs xs-> ∀p∈fs,M.lo α.length p.1/\M.lo α.length p.2:=λb=>by
 induction b with
 |nil=>exact λp h=>by simp at h
 |cons k e a d r l ih=>exact λp h=>(mC.mp h).elim (λz=>by subst z;exact⟨a.lo,d.lo⟩) (ih p)
def DenF.back: ∀{fs gs},DenF K (α++t) H fs gs->(∀p∈fs,M.lo α.length p.2)->DenF K α H fs gs:=λb=>by
 induction b with
 |nil=>exact(λ_=>.nil)
 |cons a l ih=>exact(λh=>.cons (a.back (h _ mF0)) (ih λp c=>h p (mO _ c)))
def DenF.lo: ∀{fs gs},DenF K α H fs gs-> ∀p∈fs,M.lo α.length p.2:=λb=>by
 induction b with
 |nil=>exact λp h=>by simp at h
 |cons a l ih=>exact λp h=>(mC.mp h).elim (λe=>by subst e;exact a.lo) (ih p)
def ObD.back(q:ObD g (α++t) H a o)(h:loO α.length o):ObD g α H a o:=by
 cases o with
 |lst ds=>refine q.a λj b l=>?_;exact Z0 j b (l.back h)
 |dic ds=>
  rcases q with⟨j,b,l⟩|⟨j,b,l⟩
  .exact .inl ⟨j,b,l.back h⟩
  .exact .inr (Z0 j b (l.back h))
 |ins c fs=>refine q.b λC gs m l r=>?_;exact ZC C gs m (l.back h) r
 |rcd c fs=>refine q.i λC s gs u=>u.f λm b l=>?_;exact Zv C s gs ⟨m,b,l.back h⟩
 |fdc kvs=>refine q.d λk xs b l=>?_;exact Zy k xs b (l.back h)
def ObD.lo(q:ObD g α H a o):loO α.length o:=by
 cases o with
 |lst ds=>refine q.a λj b l=>?_;exact l.lo
 |dic ds=>
  rcases q with⟨j,b,l⟩|⟨j,b,l⟩
  .exact l.lo
  .exact l.lo
 |ins c fs=>refine q.b λC gs m l r=>?_;exact l.lo
 |rcd c fs=>refine q.i λC s gs u=>u.f λm b l=>?_;exact l.lo
 |fdc kvs=>refine q.d λk xs b l=>?_;exact l.lo
end
def UD(S S2:Sto):Prop:=↑2<=S2.length/\ ∀l,l<↑2->S2[l]? =S[l]? \/ ∃o,S2[l]? =some o/\loO ↑2 o
open Classical in
noncomputable def gI(S:Sto)(r:Er)(S2:Sto):R Er:=
 if UD S S2 then match r with
  |.val (.loc l)=>if l<S.length then .ok r (S2.take S.length)else match S2[l]? with
   |some (.lst ds)=>if CY S.length ds then .ok (.new ds) (S2.take S.length)else .ok r S2
   |_=>.ok r S2
  |.val d=>if lo S.length d then .ok r (S2.take S.length)else .ok r S2
  |.new ds=>if CY S.length ds then .ok r (S2.take S.length)else .ok r S2
 else .ok r S2
theorem QB(J:Ext α H α1 H1)(S:Wd g α1 S1 H1)(P: ∃t,α2=α1++t)(x2:Ext α H α2 H1)(W:Ext α2 H1 α3 H3)(w:Wd g α3 S3 H3)(d:DenE g.K H1 α3 H3 r v):
  ∃Y S' α',gI S1 r S3=.ok Y S'/\Ext α H α' H3/\Wd g α' S' H3/\DenE g.K H α' H3 Y v:=by
 have j:=x2.trans W;have c:=d.back λb h=>J.free h;unfold gI;by_cases L:UD S1 S3
 .rw[iP L];obtain⟨t,D⟩: ∃t,α3=α1++t:=by obtain⟨t,e⟩:=P;obtain⟨u,e'⟩:=W.pre;exact⟨_,by rw[e',e,aA]⟩
  have F:=S.len;have y:Ext α H α1 H3:=⟨⟨J.pre,j.tup,j.frz⟩,J.new,j.keep,j.has⟩
  have A:Wd g α1 (S3.take S1.length) H3:=by
   refine⟨by rw[lT,F,min_eq_left L.1],S.nd,λl a o E C=>?_⟩;have k:l<S1.length:=by rw[<-F];exact(gS.mp E).1
   rw[Ŋ k]at C;have q:=w.obj l a o (by rw[D,è (by rw[F];exact k)];exact E) C;rw[D]at q;refine q.back ?_;rcases L.2 l k with e|⟨o',e,lo'⟩
   .rw[e]at C;exact(S.obj l a o E C).lo
   .rw[C]at e;cases e;rw[F];exact lo'
  have s: ∀d,lo S1.length d->Den g.K α3 H3 d v->DenE g.K H α1 H3 _ v:=λd Z q=>.val ((D▸q:Den g.K _ H3 d v).back (by rw[F];exact Z))
  cases r with
  |new O=>
   dsimp only;split
   .rename_i k;obtain⟨⟨b,I,rfl,E,C,h3⟩,X⟩:=c;exact Zv _ _ (α1) ⟨rfl,y,A,(Zr b I rfl E (λz=>C (by rw[D];exact Ġ _ z)) ((D▸h3:DenL g.K _ H3 O I).back (by rw[F];exact k))),X⟩
   .exact(Zq _ _ (α3) rfl j w c)
  |val mv=>
   have B:Den g.K α3 H3 mv v:=c.1
   cases mv with
   |loc l=>
    dsimp only;split
    .rename_i k;exact Zq _ _ (α1) rfl y A (s _ (by unfold lo;exact k) B)
    .rename_i k;refine(hZ B).a λa V Q=>?_;subst V;split
     .rename_i O hS;split
      .rename_i N;refine(w.obj l a _ Q hS).a λI E C=>?_
       have G:a∉α1:=λz=>by
        obtain⟨m,U⟩:=getElem?_of_mem z;have T:=(gS.mp U).1;have M:α3[m]? =some a:=by rw[D,è T];exact U
        obtain⟨u1,e1⟩:=gS.mp M;obtain⟨u2,e2⟩:=gS.mp Q;have:=(getElem_inj w.nd).mp (e1.trans e2.symm)
        lia
       refine Zv _ _ (α1) ⟨rfl,y,A,(Zr a I rfl E G ((D▸C:DenL g.K _ H3 O I).back (by rw[F];exact N))),(λb e=>?_)⟩;cases e;rcases j.new a (ë Q)with z|z
       .obtain⟨u,eu⟩:=J.pre;exact absurd (by rw[eu];exact Ġ _ z) G
       .exact z
      .exact(Zq _ _ (α3) rfl j w c)
     .exact(Zq _ _ (α3) rfl j w c)
   |_=>dsimp only;split;(· rename_i k;exact Zq _ _ (α1) rfl y A (s _ k B));(· exact Zq _ _ (α3) rfl j w c)
 .rw[iN0 L];exact Zq _ _ (α3) rfl j w c
def JM(g:Gm)(n:Nat)(F:↑16):Sp:=λb H Q _=> ∃α S a,Wd g α S H/\DenL g.K α H a b/\a.length=n/\Post g W0 α H (F a S) Q
def zE(n:Nat)(F:↑16)(rs:List Er)(S:Sto):R Er:=if ↑9=n then(noX (F (zK rs S).1 (zK rs S).2)).bind λr a=>gI S r a else .no
section
variable{X:Cx}{pos:Pos}
def NO(b:Ext α H α1 H1)(j:Wd X.g α1 S1 H1)(o:ArgsE X.K H α1 H1 rs vs)(q:Post X.g W α H (zE n F rs S1) Q):
  JM X.g n F vs H1 Q E0:=by
 unfold zE at q;split at q
 .rename_i A;refine(pY j b o).elim λa N=>N.e λI s u B=>?_;refine Zq a _ _ u B (by rw[vO];exact A) ?_
  cases z:F (zK rs S1).1 (zK rs S1).2 with
  |ok r S3=>
   rw[z]at q;intro v D G w E k;refine(QB b j s.pre I w E k).i λM L α' O=>O.e λJ C y m=>?_;have q:Post X.g W α H (gI S1 r S3) Q:=q;rw[J]at q;exact q v α' G C y m
  |exc c fs S3=>rw[z]at q;exact q.elim
  |no=>rw[z]at q;exact q.elim
 .exact q.elim
end
noncomputable def zH(N:D0)(ds:Q0):Rho:=ds.map some++List.replicate (N.length - ↑13) none
noncomputable def zN:R Fl->R Er
 |.ok (.next _) S=>.ok (.val .non) S
 |.ok (.ret r) S=>.ok r S
 |.exc c fs S=>.exc c fs S
 |_=>.no
def GZ{K:O0}(l:(DenL K α H ds vs)):Slots K α H (zH N ds) (start N vs):=by
 have a:=(l.length);refine⟨?_,λi d e=>?_⟩
 .unfold start zH;rw[lA,lA,lM0,lM0,Ģ,Ģ,a]
 .unfold zH at e;by_cases hi:i<↑13
  .rw[è (by simpa using hi),î]at e
   cases z:ds[i]? with
   |none=>rw[z]at e;cases e
   |some d'=>
    rw[z]at e;refine(l.at z).a λv c b=>?_;have j:=å (å e);subst j;refine Z0 v ?_ b;unfold start;rw[è (by rw[lM0,a];exact hi),î,c];rfl
  .rw[ð (by simpa using hi),List.getElem?_replicate]at e;split at e<;>cases e
section
variable{K:O0}
def okM{st:Stmt}(Fb)(F:Fun K x qual st f fd)(D:FnScope N ps (zI st))
  (hbody: ∀ j  A  outer  s  H  E ,Room k (A.deeper (envOfC qual (zI st) ↑0 f j))->
   tI (IU tH P w K mg base N qual (zI st) f j A outer s H E).nox W0 (xW st) Fb):
  FnOk P w K mg base tH (k+1) f fd ps (JM ⟨K,mg,P,w⟩ ps.length λds S=>zN (Fb (zH N ds) S)):=by
 refine F.ok D (λo H Q E h=>?_) (λj A outer s H o Q E B h=>?_)
 .refine h.i λα S ds J=>J.e λ_ l m _=>?_;rw[(l.length),m]
 .refine h.i λα S ds L=>L.e λC l m q=>?_;refine(hbody j A outer s H E B).a λt y G=>?_;refine Z0 t y (G α _ S _ H _ C (GZ l) ?_);dsimp only at q
  cases z:Fb _ S with
  |ok fl S'=>
   rw[z]at q
   cases fl with
   |next ρ=>exact λσ α' H' b a I=>q .non α' H' b a (DenE.val qZ)
   |ret r=>exact λv α' H' b a u=>q v α' H' b a u
   |brk ρ=>exact q.elim
   |cont ρ=>exact q.elim
  |exc c fs S'=>rw[z]at q;exact λα' H' b a=>q α' H' b a
  |no=>rw[z]at q;exact q
end
inductive Vw where
 |fl (v:V)|tp (ds:Q0)|ls (ds:Q0)
noncomputable def wN(S:Sto):Er->Option (List MV)
 |.new ds=>some ds
 |.val (.scr ds)=>some ds
 |.val (.loc l)=>match S[l]? with
  |some (.lst ds)=>some ds
  |_=>none
 |_=>none
def MG(S:Sto):Er->Option Vw
 |.val .non=>some (.fl .non)
 |.val (.bl b)=>some (.fl (.bl b))
 |.val (.int i)=>some (.fl (.int i))
 |.val (.str x)=>some (.fl (.str (gO x)))
 |.val (.tup ds)=>some (.tp ds)
 |.val (.typ _)=>none
 |.val (.obj _ _ _)=>none
 |r=>(wN S r).map .ls
noncomputable def HQ(e:MV->MV->Option Bool):List MV->List MV->Option (List Bool)
 |d::ds,f::fs=>(e d f).bind λk=>(HQ e ds fs).map (k::·)
 |_,_=>some []
def Xq(e:MV->MV->Option Bool):Vw->Vw->Option Bool
 |.fl x,.fl y=>some (eqV x y)
 |.tp ds,.tp es=>(HQ e ds es).map λbs=>bs.all id&&ds.length==es.length
 |.ls ds,.ls es=>if ds.length=es.length then(HQ e ds es).map λbs=>bs.all id else some false
 |_,_=>some false
theorem XM(e)(ds es):Xq e (.tp ds) (.tp es)=(HQ e ds es).map λbs=>bs.all id&&↑13==es.length:=rfl
theorem QC(e)(ds es):Xq e (.ls ds) (.ls es)=if ↑13=es.length then(HQ e ds es).map λbs=>bs.all id else some false:=rfl
def eqv(S:Sto):Nat->MV->MV->Option Bool
 |0,_,_=>none
 |n+1,a,b=>(MG S (.val a)).bind λx=>(MG S (.val b)).bind λy=>Xq (eqv S n) x y
def BS(S:Sto)(n:Nat)(a b:Er):Option Bool:=(MG S a).bind λx=>(MG S b).bind λy=>Xq (eqv S n) x y
section
variable{X:Cx}{α:B9}{S:Sto}{H:Hp}
def qA{K:O0}(j:g.K=K)(m:Wd g α S H)(e:wN S r=some ds)(d:DenX K α H r x): ∃a vs,x=.ref a/\SqL K H a vs/\DenL K α H ds vs:=by
 subst j;unfold wN at e;split at e
 .cases e;refine d.k λb vs o h _ l=>?_;subst o;exact ZC b vs rfl (.of h) l
 .cases e;refine(PQ d).b λa vs q s l=>?_;subst q;exact ZC a vs rfl s.l l
 .rename_i n;refine(eW d).a λa u h=>?_;subst u;split at e
  .rename_i es k;cases e;refine(m.obj n a _ h k).a λvs c l=>?_;exact ZC a vs rfl (.of c) l
  .cases e
 .cases e
def sV(e:MG S r=some (.fl y))(d:(DenX X.K α H r x)):x=y/\pS y=true:=by
 unfold MG at e;split at e
 .cases e;exact⟨XI d,rfl⟩
 .cases e;exact⟨BA d,rfl⟩
 .cases e;exact⟨yK d,rfl⟩
 .cases e;exact⟨gA d,rfl⟩
 .cases e
 .cases e
 .cases e
 .cases z:wN S r<;>rw[z]at e<;>cases e
def sW(e:MG S r=some (.tp ds))(d:(DenX X.K α H r x)): ∃a vs,x=.ref a/\SqT X.K H a vs/\DenL X.K α H ds vs:=by
 unfold MG at e;split at e
 .cases e
 .cases e
 .cases e
 .cases e
 .cases e;exact nF d
 .cases e
 .cases e
 .cases z:wN S r<;>rw[z]at e<;>cases e
def sX(b:↑19)(e:MG S r=some (.ls ds))(d:(DenX X.K α H r x)): ∃a vs,x=.ref a/\SqL X.K H a vs/\DenL X.K α H ds vs:=by
 unfold MG at e;split at e
 .cases e
 .cases e
 .cases e
 .cases e
 .cases e
 .cases e
 .cases e
 .cases z:wN S r with
  |none=>rw[z]at e;cases e
  |some es=>rw[z]at e;cases e;exact qA rfl b z d
theorem vP: ∀{ds es}{bs},HQ e ds es=some bs->bs.length=min ↑13 es.length
 |[],_,_,h=>by simp[HQ]at h;subst h;simp
 |_::_,[],_,h=>by simp[HQ]at h;subst h;simp
 |d::ds,f::fs,bs,h=>by
  unfold HQ at h
  cases z:e d f with
  |none=>rw[z]at h;cases h
  |some k=>
   rw[z]at h
   cases j:HQ e ds fs with
   |none=>simp[j]at h
   |some cs=>
    simp[j]at h;subst h;simp[vP j]
theorem QD: ∀{ds es}{bs}{j}{d f},HQ e ds es=some bs->ds[j]? =some d->es[j]? =some f->e d f=some (bs.getD j true)
 |[],_,_,_,_,_,h,h1,_=>by simp at h1
 |_::_,[],_,_,_,_,h,_,h2=>by simp at h2
 |d::ds,f::fs,bs,j,d',f',h,h1,h2=>by
  unfold HQ at h
  cases z:e d f with
  |none=>rw[z]at h;cases h
  |some k=>
   rw[z]at h
   cases m:HQ e ds fs with
   |none=>simp[m]at h
   |some cs=>
    simp[m]at h;subst h
    cases j with
    |zero=>simp at h1 h2;subst h1 h2;simpa using z
    |succ j=>simpa using QD m (by simpa using h1) (by simpa using h2)
def range_all{bs:L1}(h:bs.length=n):(List.range n).all (λj=>bs.getD j true)=bs.all id:=by
 subst h;rw[Ĉ,ă,ă];constructor
 .intro h x b;obtain⟨i,hi,rfl⟩:=Ń b;have:=h i (ú.mpr hi);simpa [Ę,hi]using this
 .intro h i hi;have a:=ú.mp hi;have:=h bs[i] (Ĩ a);simpa [Ę,a]using this
variable{pins:L0}{σ:St}{s:ř}
def CZ(I:↑1)(h:SqL X.K H a xs)(h':SqT X.K H a ys):False:=by refine(I.list h).c λ_ _ k _=>?_;refine(I.tuple h').c λ_ _ pt _=>?_;refine k.k λo n e c _ _=>?_;refine pt.c λm j b _=>?_;rw[e]at j;cases j;rw[c]at b;exact absurd b (by simp)
theorem Kp(I:↑1)(A:↑19)(N: ∀d f v k,Den X.K α H d v->Den X.K α H f v->e d f=some k->k=true)
  (ha:MG S a=some p) (hb:MG S b=some q) (da:DenX X.K α H a x) (db:DenX X.K α H b x) (h:Xq e p q=some k):k=true:=by
 have G: ∀{ds es:Q0}{vs:List V}{bs:L1},DenL X.K α H ds vs->DenL X.K α H es vs->HQ e ds es=some bs->bs.all id=true:=by
  intro ds es vs bs m c z;rw[ă];intro k Q;obtain⟨i,hi,rfl⟩:=Ń Q;have U:=vP z;have J:i<ds.length:=by lia
  have F:i<es.length:=by lia
  refine(m.at (gE J)).a λv L M=>?_;refine(c.at (gE F)).a λT E O=>?_;rw[L]at E;cases E;have:=N _ _ _ _ M O (QD z (gE J) (gE F));simpa [Ę,hi]using this
 cases p with
 |fl y=>
  obtain⟨rfl,C⟩:=sV ha da
  cases q with
  |fl z=>obtain⟨rfl,w⟩:=sV hb db;cases h;exact Ju C
  |tp ds=>obtain⟨a,vs,rfl,_⟩:=sW hb db;exact absurd C xF0
  |ls ds=>obtain⟨a,vs,rfl,_⟩:=sX A hb db;exact absurd C xF0
 |tp ds=>
  obtain⟨P,vs,rfl,u,m⟩:=sW ha da
  cases q with
  |fl z=>obtain⟨rfl,w⟩:=sV hb db;exact absurd w xF0
  |tp es=>
   obtain⟨D,B,o,j,c⟩:=sW hb db;cases o;cases I.tuple_inj u j;rw[XM]at h
   cases z:HQ e ds es with
   |none=>rw[z]at h;cases h
   |some bs=>
    rw[z]at h;cases h;show(bs.all id&&↑13==es.length)=true;rw[G m c z, <-m.length, <-c.length];simp
  |ls es=>obtain⟨D,B,o,j,c⟩:=sX A hb db;cases o;exact(CZ I j u).elim
 |ls ds=>
  obtain⟨P,vs,rfl,u,m⟩:=sX A ha da
  cases q with
  |fl z=>obtain⟨rfl,w⟩:=sV hb db;exact absurd w xF0
  |tp es=>obtain⟨D,B,o,j,c⟩:=sW hb db;cases o;exact(CZ I u j).elim
  |ls es=>
   obtain⟨D,B,o,j,c⟩:=sX A hb db;cases o;cases I.list_inj u j;rw[QC]at h;rw[iP (by rw[<-m.length, <-c.length])]at h
   cases z:HQ e ds es with
   |none=>rw[z]at h;cases h
   |some bs=>rw[z]at h;cases h;exact G m c z
theorem JN(I:↑1)(a:↑19): ∀ n  d f  v  k ,Den X.K α H d v->Den X.K α H f v->eqv S n d f=some k->k=true
 |0,_,_,_,_,_,_,h=>by cases h
 |n+1,d,f,v,k,h1,h2,h=>by
  unfold eqv at h
  cases j:MG S _ with
  |none=>rw[j]at h;cases h
  |some p=>
   cases m:MG S _ with
   |none=>rw[j,m]at h;cases h
   |some q=>
    rw[j,m]at h;exact Kp I a (JN I a n) j m h1 h2 h
def DA(F:(∀d f x y u v k,Den X.K α H d x->Den X.K α H f y->RelV x u->RelV y v->e d f=some k->SeqAt.EqAt A s u v k))
      (l1:DenL X.K α H ds vs) (l2:DenL X.K α H es us) (r1:Vals vs its) (r2:Vals us its2) (z:HQ e ds es=some bs):
  ∀j  q  (m:j<its2.toArray.size),SeqAt.EqAt A s its.toArray[j] its2.toArray[j] (bs.getD j true):=by
 intro j q m;have a:j<vs.length:=by rw[r1.length];simpa using q
 have b:j<us.length:=by rw[r2.length];simpa using m
 refine(l1.get (gE a)).a λd B G=>?_;refine(l2.get (gE b)).a λf o E=>?_;refine(r1.get (gE a)).a λu c C=>?_;refine(r2.get (gE b)).a λv J I=>?_;have D:its.toArray[j]=u:=by have:its[j]? =some (its[j]'(by simpa using q)):=gE _;rw[c]at this;simpa using(å this).symm
 have w:its2.toArray[j]=v:=by have:its2[j]? =some (its2[j]'(by simpa using m)):=gE _;rw[J]at this;simpa using(å this).symm
 rw[D,w];exact F d f _ _ u v _ G E C I (QD z B o)
theorem FB(I:↑1)(M:↑19): ∀ n  A  d f  x y  u v  k ,A.units+n<cLine->Den X.K α H d x->Den X.K α H f y->RelV x u->RelV y v->eqv S n d f=some k->SeqAt.EqAt A s u v k
 |0,_,_,_,_,_,_,_,_,_,_,_,_,_,h=>by cases h
 |n+1,A,d,f,x,y,u,v,k,hu,h1,h2,rx,ry,h=>by
  have j:A.units<cLine:=by lia
  have D:=h;unfold eqv at h
  cases O:MG S _ with
  |none=>rw[O]at h;cases h
  |some p=>
   cases B:MG S _ with
   |none=>rw[O,B]at h;cases h
   |some q=>
    rw[O,B]at h;have h:Xq _ p q=some k:=h;have Z:=λd f x y u v k a b c d' e=>FB I M n A.in1 d f x y u v k #[0] a b c d' e
    cases p with
    |fl x'=>
     obtain⟨rfl,Y⟩:=sV O h1
     cases q with
     |fl y'=>obtain⟨rfl,P⟩:=sV B h2;cases h;exact Zz rx ry Y P
     |tp es=>
      obtain⟨b,Q,rfl,w,C⟩:=sW B h2;cases ry;cases h;obtain⟨E,_,pt,_⟩:=I.tuple w;exact(GV rx Y pt j).2.1
     |ls es=>
      obtain⟨b,Q,rfl,w,C⟩:=sX M B h2;cases ry;cases h;obtain⟨E,_,G,_⟩:=I.list w;exact(NI rx Y G.isList j).2.1
    |tp ds=>
     obtain⟨a,vs,rfl,W,F⟩:=sW O h1;cases rx;obtain⟨E,J,pt,_⟩:=I.tuple W
     cases q with
     |fl y'=>obtain⟨rfl,P⟩:=sV B h2;cases h;exact(GV ry P pt j).1
     |tp es=>
      obtain⟨b,Q,rfl,w,C⟩:=sW B h2;cases ry;by_cases o:a=b
      .subst o;rw[JN I M _ d f _ k h1 h2 D];exact SeqAt.EqAt.same _
      .refine(I.tuple w).c λm L U _=>?_;rw[XM]at h
       cases z:HQ _ ds es with
       |none=>rw[z]at h;cases h
       |some bs=>
        rw[z]at h;cases h;have:=SeqAt.RcAt.tuples pt U j (DA Z F C J L z);have N:=vP z;rw[range_all (by rw[N];simp[<-J.length, <-L.length,F.length,C.length])]at this;have e3:(E.toArray.size==m.toArray.size)=(↑13==es.length):=by simp[<-J.length, <-L.length,F.length,C.length]
        rw[e3]at this;exact SeqAt.EqAt.of_refs o this
     |ls es=>
      obtain⟨b,Q,rfl,w,C⟩:=sX M B h2;cases ry;cases h;refine(I.list w).c λm _ G _=>?_;exact SeqAt.EqAt.tuple_list pt G.isList j
    |ls ds=>
     obtain⟨a,vs,rfl,W,F⟩:=sX M O h1;cases rx;obtain⟨E,J,G,_⟩:=I.list W
     cases q with
     |fl y'=>obtain⟨rfl,P⟩:=sV B h2;cases h;exact(NI ry P G.isList j).1
     |tp es=>
      obtain⟨b,Q,rfl,w,C⟩:=sW B h2;cases ry;cases h;refine(I.tuple w).c λm _ pt _=>?_;exact SeqAt.EqAt.list_tuple G.isList pt j
     |ls es=>
      obtain⟨b,Q,rfl,w,C⟩:=sX M B h2;cases ry;by_cases o:a=b
      .subst o;rw[JN I M _ d f _ k h1 h2 D];exact SeqAt.EqAt.same _
      .refine(I.list w).c λm L T _=>?_;rw[QC]at h;by_cases N:↑13=es.length
       .rw[iP N]at h
        cases z:HQ _ ds es with
        |none=>rw[z]at h;cases h
        |some bs=>
         rw[z]at h;cases h;have:=SeqAt.RcAt.lists G.isList T.isList (by simp[<-J.length, <-L.length,F.length,C.length,N]) j (DA Z F C J L z);rw[range_all (by rw[(vP z)];simp[<-J.length,F.length,N])]at this;exact SeqAt.EqAt.of_refs o this
       .rw[iN0 N]at h;cases h;exact SeqAt.EqAt.of_refs o (SeqAt.RcAt.lists_lengths G.isList T.isList (by simpa [<-J.length, <-L.length,F.length,C.length]using N) j)
theorem Xr{F:Around->ř->Ś->Ś->Bool->Prop}{tr:Bool->Bool}
  (hff: ∀x y u v,RelV x u->RelV y v->pS x=true->pS y=true->F A s u v (tr (eqV x y)))
  (hfl: ∀x v l B,RelV x v->pS x=true->s.heap.IsList l B->A.units<cLine->F A s v (.ref l) (tr false)/\F A s (.ref l) v (tr false))
  (hft: ∀x v l B,RelV x v->pS x=true->s.heap.IsTuple l B->A.units<cLine->F A s v (.ref l) (tr false)/\F A s (.ref l) v (tr false))
  (hlt: ∀l b B m,s.heap.IsList l B->s.heap.IsTuple b m->A.units<cLine->F A s (.ref l) (.ref b) (tr false)/\F A s (.ref b) (.ref l) (tr false))
  (htt: ∀ l b  B m  e ,s.heap.IsTuple l B->s.heap.IsTuple b m->A.units<cLine->(∀j  Y  (G:j<m.size),SeqAt.EqAt A.in1 s B[j] m[j] (e j))->F A s (.ref l) (.ref b) (tr ((List.range (min B.size m.size)).all e&&B.size==m.size)))
  (hll: ∀ l b  B m  e ,s.heap.IsList l B->s.heap.IsList b m->B.size=m.size->A.units<cLine->(∀j  Y  (G:j<m.size),SeqAt.EqAt A.in1 s B[j] m[j] (e j))->F A s (.ref l) (.ref b) (tr ((List.range B.size).all e)))
  (hln: ∀ l b  B m ,s.heap.IsList l B->s.heap.IsList b m->(B.size !=m.size)=true->A.units<cLine->F A s (.ref l) (.ref b) (tr false))
  (I:↑1) (wd:↑19) (n)     (hu:A.units+(n+1)<cLine) (Y:DenX X.K α H a x) (G:DenX X.K α H b y) (rx:RelV x u) (ry:RelV y v) (h:BS S n a b=some k):F A s u v (tr k):=by
 have o:A.units<cLine:=by lia
 unfold BS at h
 cases Q:MG S a with
 |none=>rw[Q]at h;cases h
 |some p=>
  cases D:MG S b with
  |none=>rw[Q,D]at h;cases h
  |some q=>
   rw[Q,D]at h;have h:Xq _ p q=some k:=h;have he:=λd f x y u v k a b c d' e=>FB I wd n A.in1 d f x y u v k #[0] a b c d' e
   cases p with
   |fl x'=>
    obtain⟨rfl,fx⟩:=sV Q Y
    cases q with
    |fl y'=>obtain⟨rfl,T⟩:=sV D G;cases h;exact hff _ _ _ _ rx ry fx T
    |tp es=>
     obtain⟨b,U,rfl,C,E⟩:=sW D G;cases ry;cases h;refine(I.tuple C).c λJ _ pt _=>?_;exact(hft _ _ _ _ rx fx pt o).1
    |ls es=>
     obtain⟨b,U,rfl,C,E⟩:=sX wd D G;cases ry;cases h;refine(I.list C).c λJ _ M _=>?_;exact(hfl _ _ _ _ rx fx M.isList o).1
   |tp ds=>
    obtain⟨a,vs,rfl,s1,L⟩:=sW Q Y;cases rx;obtain⟨J,N,pt,_⟩:=I.tuple s1
    cases q with
    |fl y'=>obtain⟨rfl,T⟩:=sV D G;cases h;exact(hft _ _ _ _ ry T pt o).2
    |tp es=>
     obtain⟨b,U,rfl,C,E⟩:=sW D G;cases ry;refine(I.tuple C).c λw O Z _=>?_;rw[XM]at h
     cases z:HQ _ ds es with
     |none=>rw[z]at h;cases h
     |some bs=>
      rw[z]at h;cases h;have:=htt _ _ _ _ _ pt Z o (DA he L E N O z);have P:=vP z;rw[range_all (by rw[P];simp[<-N.length, <-O.length,L.length,E.length])]at this;have e3:(J.toArray.size==w.toArray.size)=(↑13==es.length):=by simp[<-N.length, <-O.length,L.length,E.length]
      rw[e3]at this;exact this
    |ls es=>
     obtain⟨b,U,rfl,C,E⟩:=sX wd D G;cases ry;cases h;refine(I.list C).c λw _ M _=>?_;exact(hlt _ _ _ _ M.isList pt o).2
   |ls ds=>
    obtain⟨a,vs,rfl,s1,L⟩:=sX wd Q Y;cases rx;obtain⟨J,N,M,_⟩:=I.list s1
    cases q with
    |fl y'=>obtain⟨rfl,T⟩:=sV D G;cases h;exact(hfl _ _ _ _ ry T M.isList o).2
    |tp es=>
     obtain⟨b,U,rfl,C,E⟩:=sW D G;cases ry;cases h;refine(I.tuple C).c λw _ pt _=>?_;exact(hlt _ _ _ _ M.isList pt o).1
    |ls es=>
     obtain⟨b,U,rfl,C,E⟩:=sX wd D G;cases ry;refine(I.list C).c λw O W _=>?_;rw[QC]at h;by_cases P:↑13=es.length
     .rw[iP P]at h
      cases z:HQ _ ds es with
      |none=>rw[z]at h;cases h
      |some bs=>
       rw[z]at h;cases h;have:=hll _ _ _ _ _ M.isList W.isList (by simp[<-N.length, <-O.length,L.length,E.length,P]) o (DA he L E N O z);rw[range_all (by rw[(vP z)];simp[<-N.length,L.length,P])]at this;exact this
     .rw[iN0 P]at h;cases h;exact hln _ _ _ _ M.isList W.isList (by simpa [<-N.length, <-O.length,L.length,E.length]using P) o
def D3(I:↑1)(w:↑19)(n)(B:A.units+(n+1)<cLine)(o:DenX X.K α H a x)(m:DenX X.K α H b y)(j:RelV x u)(q:RelV y v)(h:BS S n a b=some k):SeqAt.RcAt A s u v k:=
 Xr (tr:=id) (λ_ _ _ _ a b c d=>(Jt a b c d).1) (λ_ _ _ _ a b c d=>⟨(NI a b c d).2.2.2.1,(NI a b c d).2.2.1⟩) (λ_ _ _ _ a b c d=>⟨(GV a b c d).2.2.2.1,(GV a b c d).2.2.1⟩)
  (λ_ _ _ _ a b c=>⟨SeqAt.RcAt.list_tuple a b c,SeqAt.RcAt.tuple_list b a c⟩) (λ_ _ _ _ _ a b c d=>SeqAt.RcAt.tuples a b c d) (λ_ _ _ _ _ a b c d e=>SeqAt.RcAt.lists a b c d e) (λ_ _ _ _ a b c d=>SeqAt.RcAt.lists_lengths a b c d)
  I w n B o m j q h
def D4(I:↑1)(w:↑19)(n)(B:A.units+(n+1)<cLine)(o:DenX X.K α H a x)(m:DenX X.K α H b y)(j:RelV x u)(q:RelV y v)(h:BS S n a b=some k):SeqAt.RcNeAt A s u v (!k):=
 Xr (λ_ _ _ _ a b c d=>(Jt a b c d).2) (λ_ _ _ _ a b c d=>⟨(NI a b c d).2.2.2.2.2,(NI a b c d).2.2.2.2.1⟩) (λ_ _ _ _ a b c d=>⟨(GV a b c d).2.2.2.2.2,(GV a b c d).2.2.2.2.1⟩)
  (λ_ _ _ _ a b c=>⟨SeqAt.RcNeAt.list_tuple a b c,SeqAt.RcNeAt.tuple_list b a c⟩) (λ_ _ _ _ _ a b c d=>SeqAt.RcNeAt.tuples a b c d) (λ_ _ _ _ _ a b c d e=>SeqAt.RcNeAt.lists a b c d e) (λ_ _ _ _ a b c d=>SeqAt.RcNeAt.lists_lengths a b c d)
  I w n B o m j q h
theorem Aq{α β:Type}{a c:List α}{b d:List β}(h:a.length=b.length)(k:c.length=d.length)(e:a.zip b=c.zip d):a=c/\b=d:=⟨by rw[<-List.map_fst_zip (Nat.le_of_eq h),e,List.map_fst_zip (Nat.le_of_eq k)],by rw[<-List.map_snd_zip (Nat.le_of_eq h.symm),e,List.map_snd_zip (Nat.le_of_eq k.symm)]⟩
def MV.kd:MV->Nat
 |.non=>0|.bl _=>1|.int _=>2|.str _=>3|.typ _=>4|.tup _=>5|.scr _=>6|.loc _=>7|.obj _ _ _=>8
def kdO:Option HO->Nat
 |none=>10
 |some (.tup _)=>5
 |some (.frz _ (.tup _))=>5
 |some (.frz _ (.lst _))=>6
 |some (.frz _ (.ins _ _ _))=>8
 |_=>7
def kdV(H:Hp):V->Nat
 |.non=>0|.bl _=>1|.int _=>2|.str _=>3|.ty _=>4|.ref a=>kdO (H a)|_=>10
theorem Den.kd(I:↑1)(E:↑19){d:MV}{v:V}(h:Den X.K α H d v):kdV H v=d.kd\/kdV H v=10/\(d.kd=5/\(∃a xs,v=.ref a/\SqT X.K H a xs)\/d.kd=6/\ ∃a xs,v=.ref a/\SqL X.K H a xs):=by
 have k: ∀{a o},H a=o->kdV H (.ref a)=kdO o:=λh=>congrArg kdO h
 cases d with
 |non=>cases gP h;exact .inl rfl
 |bl b=>cases eV h;exact .inl rfl
 |int b=>cases yI h;exact .inl rfl
 |str b=>cases yX h;exact .inl rfl
 |typ b=>cases cF h;exact .inl rfl
 |tup ds=>
  obtain⟨a,vs,rfl,j,_⟩:=yN h;have w:=j
  rcases j with(j|⟨o,j⟩)|⟨o,its,n,j,_⟩
  .exact .inl (k j)
  .exact .inl (k j)
  .exact .inr ⟨k (I.bs a o (I.mod.kin a o j)).2,.inl ⟨rfl,a,vs,rfl,w⟩⟩
 |scr ds=>
  obtain⟨a,vs,rfl,j,_⟩:=gR h;have w:=j.l
  rcases j with⟨o,j⟩|⟨o,its,n,j,_⟩
  .exact .inl (k j)
  .exact .inr ⟨k (I.bs a o (I.mod.kin a o j)).2,.inr ⟨rfl,a,vs,rfl,w⟩⟩
 |loc l=>
  obtain⟨a,rfl,q⟩:=hZ h;obtain⟨W,A,M,D⟩:=E.mem (ë q)
  refine .inl ((k A).trans ?_)
  cases W with
  |tup xs=>exact absurd rfl (M xs)
  |frz o u=>obtain⟨φ,rfl⟩:=D o u rfl;rfl
  |_=>rfl
 |obj c ns ds=>obtain⟨a,C,U,w,Q,rfl,q,_⟩:=gQ h;exact .inl (k q)
theorem Den.kds(I:↑1)(E:↑19){d f:MV}{v:V}(h:Den X.K α H d v)(h':Den X.K α H f v):d.kd=f.kd:=by
 have n: ∀d:MV,d.kd≠10:=λd=>by cases d<;>exact nofun
 rcases h.kd I E with k|⟨k,a⟩<;>rcases h'.kd I E with w|⟨w,b⟩
 .exact k.symm.trans w
 .exact absurd (k.symm.trans w) (n d)
 .exact absurd (w.symm.trans k) (n f)
 .rcases a with⟨a,p,xs,rfl,j⟩|⟨a,p,xs,rfl,j⟩<;>rcases b with⟨b,q,ys,e,m⟩|⟨b,q,ys,e,m⟩
  .rw[a,b]
  .cases e;exact(CZ I m j).elim
  .cases e;exact(CZ I j m).elim
  .rw[a,b]
theorem MV.inv(f:MV):(f.kd=0->f=.non)/\(f.kd=1-> ∃b,f=.bl b)/\(f.kd=2-> ∃b,f=.int b)/\(f.kd=3-> ∃b,f=.str b)/\(f.kd=4-> ∃b,f=.typ b)/\(f.kd=5-> ∃b,f=.tup b)/\(f.kd=6-> ∃b,f=.scr b)/\(f.kd=7-> ∃b,f=.loc b)/\(f.kd=8-> ∃a b c,f=.obj a b c):=by
 cases f<;>(refine⟨?_,?_,?_,?_,?_,?_,?_,?_,?_⟩<;>first |exact λ_=>rfl|exact λ_=>⟨_,rfl⟩|exact λ_=>⟨_,_,_,rfl⟩|exact nofun)
mutual
theorem Den.inj(I:↑1)(E:↑19): ∀{d f:MV}{v:V},Den X.K α H d v->Den X.K α H f v->d=f
 |.non,f,v,h,h'=>(f.inv.1 (h.kds I E h').symm).symm
 |.bl b,f,v,h,h'=>by obtain⟨c,rfl⟩:=f.inv.2.1 (h.kds I E h').symm;cases eV h;cases eV h';rfl
 |.int b,f,v,h,h'=>by obtain⟨c,rfl⟩:=f.inv.2.2.1 (h.kds I E h').symm;cases yI h;cases yI h';rfl
 |.str b,f,v,h,h'=>by obtain⟨c,rfl⟩:=f.inv.2.2.2.1 (h.kds I E h').symm;cases yX h;rw[CU (V.str.inj (yX h'))]
 |.typ b,f,v,h,h'=>by obtain⟨c,rfl⟩:=f.inv.2.2.2.2.1 (h.kds I E h').symm;cases cF h;cases cF h';rfl
 |.tup ds,f,v,h,h'=>by obtain⟨es,rfl⟩:=f.inv.2.2.2.2.2.1 (h.kds I E h').symm;obtain⟨a,vs,rfl,j,N⟩:=yN h;obtain⟨u,w,k,J,B⟩:=yN h';cases k;cases I.tuple_inj j J;rw[DenL.inj I E N B]
 |.scr ds,f,v,h,h'=>by obtain⟨es,rfl⟩:=f.inv.2.2.2.2.2.2.1 (h.kds I E h').symm;obtain⟨a,vs,rfl,j,N⟩:=gR h;obtain⟨u,w,k,J,B⟩:=gR h';cases k;cases I.list_inj j.l J.l;rw[DenL.inj I E N B]
 |.loc l,f,v,h,h'=>by
  obtain⟨m,rfl⟩:=f.inv.2.2.2.2.2.2.2.1 (h.kds I E h').symm;obtain⟨a,rfl,L⟩:=hZ h;obtain⟨u,k,q⟩:=hZ h';cases k;by_cases P:l=m
  .rw[P]
  .exact absurd rfl (E.ne L q P)
 |.obj c ns ds,f,v,h,h'=>by
  obtain⟨c',ns',es,rfl⟩:=f.inv.2.2.2.2.2.2.2.2 (h.kds I E h').symm
  obtain⟨a,C,U,w,Q,rfl,q,hn,hc,hl,N⟩:=gQ h
  obtain⟨u,C2,aa,G,o3,k,y,ab,O,T,B⟩:=gQ h';cases k;rw[q]at y;injection y with y
  injection y with _ y
  injection y with e1 k e3
  subst e1;rw[hc]at O;cases O;obtain⟨rfl,rfl⟩:=Aq hl T e3;rw[DenL.inj I E N B]
theorem DenL.inj(I:↑1)(b:↑19): ∀{ds fs:Q0}{vs:List V},DenL X.K α H ds vs->DenL X.K α H fs vs->ds=fs
 |[],fs,vs,h,h'=>by
  cases h.isnil
  cases fs with
  |nil=>rfl
  |cons f fs=>obtain⟨_,_,e,_⟩:=h'.uncons;cases e
 |d::ds,fs,vs,h,h'=>by
  obtain⟨v,r,rfl,a,l⟩:=h.uncons
  cases fs with
  |nil=>cases h'.isnil
  |cons f fs=>
   obtain⟨k,m,e,c,j⟩:=h'.uncons;cases e;rw[Den.inj I b a c,DenL.inj I b l j]
end
end
inductive LexR(A:Around)(s:ř):List Ś->List Ś->Bool->Prop
 |nn:LexR A s [] [] false
 |nc (x xs):LexR A s [] (x::xs) true
 |cn (y ys):LexR A s (y::ys) [] false
 |eq {y x ys xs k}:SeqAt.EqAt A s y x true->LexR A s ys xs k->LexR A s (y::ys) (x::xs) k
 |ne {y x ys xs k}:SeqAt.EqAt A s y x false->(∀(prog:ś)(w:World)(E Q:VP),Q (.bool k) s->wpAny (model prog w) A (richCompare .Lt y x) Q E s)->LexR A s (y::ys) (x::xs) k
section
open PySem.SeqAt
open PySem.AutoSeq1 (wpAny_loadPart')
open PySem.MeetsSeq PySem.MeetsSeq2 PySem.MeetsSeq3
end
def Kq(G:IsTup s.heap l its)(I:IsTup s.heap b its2)(j:LexR A.in1 s its.toList its2.toList k)(S:A.units<cLine)(prog)(w)(E Q)(h:Q (.bool k) s):
  wpAny ↑3 A (richCompare .Lt (.ref l) (.ref b)) Q E s:=by
 obtain⟨⟨cls,O,data,sl⟩,L,P,n,M⟩:=id G;obtain⟨⟨K,B,_,C⟩,q,D,N,v⟩:=id I;subst P M D v
 exact richCompare_meets_room ⟨_,L,rfl⟩ ⟨_,q,rfl⟩ PySem.F.slot_tuple_lt PySem.F.entry_tuple_lt (PySem.F.args_tuple_lt_2 _ _) ((show Meets (Builtin.«tuple.__lt__» ⟨[.ref l,.ref b],[]⟩)
   (λA R s=>s.heap.get? l=some {cls:=.type "tuple",dict:=O,data:=.seq its n,slots:=sl}/\s.heap.get? b=some {cls:=.type "tuple",dict:=B,data:=.seq its2 N,slots:=C}/\
    LexR A.in1 s its.toList its2.toList k/\R (.ok (.ret (.bool k))) s) from .of_wp λprog w A R s h=>by
    obtain⟨J,g,d,tk,os⟩:=s;obtain⟨G,I,j,h⟩:=h;have W:=AutoSeq1.sub_tuple_tuple
    wp_walk using wpAny_loadPart' G,wpAny_loadPart' I,wpAny_forIn_list _ (λrest b H=>b.1=none/\H=⟨J,g,d,tk,os⟩/\ ∃(vs u:A0),rest=vs.zip u/\
     LexR A.in1 ⟨J,g,d,tk,os⟩ vs u k/\(vs.length)+its2.size=u.length+its.size) _
    case turn=>
     rintro⟨y,x⟩ rest b H ⟨o,rfl,vs,u,c,m,a⟩
     cases m with
     |nn=>rw[zip_nil_left]at c;cases c
     |nc x xs=>rw[zip_nil_left]at c;cases c
     |cn y ys=>rw[List.zip_nil_right]at c;cases c
     |@eq y' x' ys xs k' he hr=>
      rw[Ī]at c;injection c with hyx hrest
      injection hyx with hy j
      subst hy j;simp only[lC0]at a;refine wB (he prog w _ _ ?_)
      wp_walk
      exact⟨rfl,rfl,_,_,hrest,hr,by lia⟩
     |@ne y' x' ys xs k' he hr=>
      rw[Ī]at c;injection c with hyx hrest
      injection hyx with hy j
      subst hy j;refine wB (he prog w _ _ ?_)
      wp_walk using(hr prog w)
      exact⟨_,rfl,by simpa using h⟩
    case fin=>
     rintro⟨X,U⟩ H ⟨o,rfl,vs,u,c,m,a⟩;simp only at o;subst o
     have T:k=decide (its.size<its2.size):=by
      cases m with
      |nn=>simp only[ġ]at a;exact(dF0 #[0]).symm
      |nc x xs=>simp only[ġ,lC0]at a;exact(dT0 #[0]).symm
      |cn y ys=>simp only[ġ,lC0]at a;exact(dF0 #[0]).symm
      |eq he hr=>rw[Ī]at c;cases c
      |ne he hr=>rw[Ī]at c;cases c
     rw[T]at h
     wp_walk
     exact⟨_,rfl,by simpa [Builtin.Tuple.tupleCompareSizes]using h⟩
    case h=>
     exact⟨rfl,rfl,_,_,rfl,j,by simp;lia⟩))
  ⟨L,q,j,show Value.bool k≠Value.notImplemented/\Q _ s from⟨(λx=>nomatch x),h⟩⟩ S
noncomputable def UE(e l:MV->MV->Option Bool):List MV->List MV->Option Bool
 |[],[]=>some false
 |[],_::_=>some true
 |_::_,[]=>some false
 |d::ds,f::fs=>(e d f).bind λk=>if k=true then UE e l ds fs else l d f
def IB(S:Sto):Nat->MV->MV->Option Bool
 |0,_,_=>none
 |n+1,.int i,.int j=>some (decide (i<j))
 |n+1,.str x,.str y=>some (decide (x<y))
 |n+1,.tup ds,.tup es=>UE (eqv S n) (IB S n) ds es
 |_,_,_=>none
section
variable{X:Cx}
theorem Kr(q:(∀d f x y u v k,Den X.K α H d x->Den X.K α H f y->RelV x u->RelV y v->e d f=some k->SeqAt.EqAt A s u v k))
  (hl: ∀d f x y u v k,Den X.K α H d x->Den X.K α H f y->RelV x u->RelV y v->l d f=some k-> ∀ prog  w  E Q ,Q (.bool k) s->wpAny ↑3 A (richCompare .Lt u v) Q E s):
  ∀{ds fs}{vs G}{m j}{k},DenL X.K α H ds vs->DenL X.K α H fs G->Vals vs m->Vals G j->UE e l ds fs=some k->LexR A s m j k
 |[],[],_,_,_,_,k,l1,l2,r1,r2,h=>by cases l1.isnil;cases l2.isnil;cases r1;cases r2;cases h;exact .nn
 |[],f::fs,_,_,_,_,k,l1,l2,r1,r2,h=>by
  cases l1.isnil;obtain⟨v,r,rfl,a,l⟩:=l2.uncons;cases r1
  cases r2 with
  |cons a b=>cases h;exact .nc _ _
 |d::ds,[],_,_,_,_,k,l1,l2,r1,r2,h=>by
  cases l2.isnil;obtain⟨v,r,rfl,a,l⟩:=l1.uncons;cases r2
  cases r1 with
  |cons a b=>cases h;exact .cn _ _
 |d::ds,f::fs,_,_,_,_,k,l1,l2,r1,r2,h=>by
  refine l1.uncons.b λv r F a c=>?_;subst F;refine l2.uncons.b λD C I B o=>?_;subst I
  cases r1 with
  |cons b1 c1=>
   cases r2 with
   |cons b2 c2=>
    unfold UE at h
    cases z:e d f with
    |none=>rw[z]at h;cases h
    |some kk=>
     rw[z]at h;have h:_=some k:=h
     cases kk with
     |true=>
      exact .eq (q d f _ _ _ _ _ a B b1 b2 z) (Kr q hl c o c1 c2 h)
     |false=>
      exact .ne (q d f _ _ _ _ _ a B b1 b2 z) (hl d f _ _ _ _ _ a B b1 b2 h)
theorem XO(I:↑1)(B:↑19): ∀ n  A  d f  x y  u v  k ,A.units+n<cLine->Den X.K α H d x->Den X.K α H f y->RelV x u->RelV y v->IB S n d f=some k->
  ∀ prog  w  E Q ,Q (.bool k) s->wpAny ↑3 A (richCompare .Lt u v) Q E s
 |0,_,_,_,_,_,_,_,_,_,_,_,_,_,h=>by cases h
 |n+1,A,d,f,x,y,u,v,k,hu,h1,h2,rx,ry,h=>by
  intro prog w E Q m;unfold IB at h;split at h
  .cases h
  .cases h;cases yI h1;cases yI h2;obtain⟨t,rfl⟩:=rx;obtain⟨D,rfl⟩:=ry;exact(PyProof.Rows.lt_int m:wpAny _ A _ Q E s)
  .cases h;cases yX h1;cases yX h2;obtain⟨t,rfl⟩:=rx;obtain⟨D,rfl⟩:=ry;refine(PySem.P.lt_str ?_:wpAny _ A _ Q E s);exact m
  .rename_i T Y es L;refine(yN h1).b λa W V M J=>?_;subst V;refine(yN h2).b λb U Z C G=>?_;subst Z;subst rx;subst ry;refine(I.tuple M).c λN O pt _=>?_;refine(I.tuple C).c λq F j _=>?_;cases L;refine Kq pt j ?_ #[0] prog w E Q m
   exact Kr (λd f x y u v k a b c o e=>FB I B n A.in1 d f x y u v k (show A.units+1+n<cLine by lia) a b c o e)
    (λd f x y u v k a b c o e=>XO I B n A.in1 d f x y u v k (show A.units+1+n<cLine by lia) a b c o e) J G O F h
  .cases h
end
section
variable{X:Cx}{b c e:Expr}{es:N0}{f h:AX}
noncomputable def Rv(C:Int->Int->Prop)[∀i j,Decidable (C i j)](g:Int->Int->Int):Er->Er->Sto->R Er
 |.val (.int i),.val (.int j),S=>if C i j then .ok (.val (.int (g i j))) S else .no
 |_,_,_=>.no
noncomputable def zDB(g:Int->Int->Bool):Er->Er->Sto->R Er
 |.val (.int i),.val (.int j),S=>.ok (.val (.bl (g i j))) S
 |_,_,_=>.no
def QE[∀i j,Decidable (C i j)]{g:Int->Int->Int}(h: ∀i j,C i j->C' i j):PR X W (rI C' λi j=>.int (g i j)) (Rv C g):=by
 intro p q x y α S H Q m b c a;unfold Rv at a;split at a
 .split at a
  .rename_i k;exact Zr _ _ (yK b) (yK c) (h _ _ k) (Post.val a m (yQ _))
  .exact a.elim
 .exact a.elim
def Rw{g:Int->Int->Int}:PR X W (Py λi j=>.int (g i j)) (Rv (λ_ _=>True) g):=by
 intro p q x y α S H Q k b c a;unfold Rv at a;split at a
 .rw[iP trivial]at a;exact ZC _ _ (yK b) (yK c) (Post.val a k (yQ _))
 .exact a.elim
def Kt{g:Int->Int->Bool}:PR X W (Py λi j=>.bl (g i j)) (zDB g):=by
 intro p q x y α S H Q k b c a;unfold zDB at a;split at a
 .exact(ZC _ _ (yK b) (yK c) (Post.val a k (xI _)))
 .exact a.elim
abbrev Fk:=Rv (λ_ _=>True) λi j=>i - j
def D6(c:zP X W a f)(m:zP X W b g):zP X W (.BinOp a .Sub b pos) (λj S=>(f j S).bind λp k=>(g j k).bind λq S2=>Fk p q S2):=JE (zAD λ_ _ _ _ _ _ _ q=>sub_int q) Rw c m
def Rx(_ j:Int):Prop:=0<j/\j.natAbs.log2<9000
instance(i j:Int):Decidable (Rx i j):=inferInstanceAs (Decidable (_/\_))
abbrev tU:=Rv Rx λi j=>i / j
def D7(o:zP X W a f)(s:zP X W b g):zP X W (.BinOp a .FloorDiv b pos) (λk S=>(f k S).bind λp m=>(g k m).bind λq S2=>tU p q S2):=JE (zAC λi j _ _ _ _ _ c q=>by refine floordiv_int (by have:=c.1;lia) ?_ (.inl (PyProof.noPylong_of_log2 c.2));rw[(Int.fdiv_eq_ediv_of_nonneg i (Int.le_of_lt c.1))];exact q) (QE λi j h=>h) o s
abbrev eY:=Rv (λ_ j=>0<j) λi j=>i % j
def D8(c:zP X W a f)(s:zP X W b g):zP X W (.BinOp a .Mod b pos) (λk S=>(f k S).bind λp m=>(g k m).bind λq S2=>eY p q S2):=JE (zAC λi j _ _ _ _ _ o q=>by have u:_<j:=o;exact mod_int' #[0] (by rw[Int.fmod_eq_emod_of_nonneg i #[0]];exact q)) (QE λi j h=>h) c s
def Fm(i j:Int):Prop:=0<=j/\(Builtin.Int.intBits i:Int) * j<=2 ^ 27
instance(i j:Int):Decidable (Fm i j):=inferInstanceAs (Decidable (_/\_))
abbrev QF:=Rv Fm λi j=>i ^ j.toNat
def D9(o:zP X W a f)(s:zP X W b g):zP X W (.BinOp a .Pow b pos) (λk S=>(f k S).bind λp m=>(g k m).bind λq S2=>QF p q S2):=JE (zAC λ_ _ _ _ _ _ _ c q=>pow_int c.1 c.2 q) (QE λi j h=>h) o s
def shlC(i j:Int):Prop:=0<=j/\j<=1000000/\i.natAbs<2 ^ 64
instance(i j:Int):Decidable (shlC i j):=inferInstanceAs (Decidable (_/\_/\_))
noncomputable def Ar:Er->Sto->R Er
 |.val (.int i),S=>.ok (.val (.int (-i))) S
 |_,_=>.no
def Rz(c:zP X W a f):zP X W (.UnaryOp .USub a pos) (λj S=>(f j S).bind Ar):=by
 refine c.a λC c k=>?_;refine Z0 _ (Xe Ja c) (λα j S σ H Q s sl q=>k α j S σ H _ s sl (q.bind λu p y v A B m w o b=>?_))
 replace b:=b.shift m
 unfold Ar at b;split at b
 .exact(Z0 _ (yK o.1) (Post.val b w (yQ _)))
 .exact b.elim
noncomputable def Ik(S:Sto):Er->Option (List MV)
 |.new ds=>some ds
 |.val (.loc l)=>match S[l]? with
  |some (.lst ds)=>some ds
  |_=>none
 |_=>none
def QG(k:↑19)(e:Ik S r=some ds)(d:(DenX X.K α H r x)): ∃a vs,x=.ref a/\H a=some (.lst vs)/\DenL X.K α H ds vs:=by
 unfold Ik at e;split at e
 .cases e;refine d.k λb vs m h _ l=>?_;subst m;exact ZC b vs rfl h l
 .rename_i n;refine(eW d).a λa o h=>?_;subst o;split at e
  .rename_i es j;cases e;refine(k.obj n a _ h j).a λvs c l=>?_;exact ZC a vs rfl c l
  .cases e
 .cases e
def As(p q:Er)(S:Sto):R Er:=match Ik S p,Ik S q with
 |some x,some y=>if x.length+y.length<=sizeLine then .ok (.new (x++y)) S else .no
 |_,_=>.no
def yF:Er->Er->Sto->R Er
 |.val (.int i),.val (.int j),S=>.ok (.val (.int (i+j))) S
 |.val (.str x),.val (.str y),S=>if x.length+y.length<=sizeLine then .ok (.val (.str (x++y))) S else .no
 |.val (.tup x),.val (.tup y),S=>if x.length+y.length<=sizeLine then .ok (.val (.tup (x++y))) S else .no
 |p,q,S=>As p q S
def Kv:OpR X (binaryOp .Add) (λx y H Q=> ∃a b B,x=.ref a/\y=.ref b/\SqT X.K H a []/\SqT X.K H b B/\Q (.ref b) H):=by
 intro pins s σ H x y v u Q I L E h;refine h.o λa b B V Z T W q=>?_;subst V;subst Z;subst L;subst E;refine(I.tuple T).c λU O p1 _=>?_;refine(I.tuple W).c λw Y p2 _=>?_;have M:=O.nil_iff.mpr rfl;subst M;obtain⟨⟨G,P,D,sl⟩,C,S,n,J⟩:=id p1;obtain⟨⟨A,k,_,m⟩,c,o,N,j⟩:=id p2;subst S J o j
 exact concat_meets ⟨_,C,rfl⟩ ⟨_,c,rfl⟩ noFill_tuple_add seq_tuple_add PySem.F.slot_tuple_add PySem.F.entry_tuple_add (PySem.F.args_tuple_add_2 _ _)
  (tuple_addW0 a b _ _ n N P k sl m rfl) ⟨C,c,(ZC (.ref b) H I rfl q)⟩
def QH(Y:zP X W a f)(Z:zP X W b g):zP X W (.BinOp a .Add b pos) (λN S=>(f N S).bind λp U=>(g N U).bind λq S2=>yF p q S2):=by
 refine JE (Zo.or (WT.or (A2.or (Qk.or Kv)))) ?_ Y Z;intro p q x y α S H Q j s w c;unfold yF at c;split at c
 .exact .inl (ZC _ _ (yK s) (yK w) (Post.val c j (yQ _)))
 .split at c
  .rename_i o;refine .inr (.inl (Zr _ _ (gA s) (gA w) (by rw[jN];exact o) ?_));rw[PH];exact Post.val c j (eA _)
  .exact c.elim
 .split at c
  .rename_i K J o;refine(nF s).b λA B V G m=>?_;subst V;refine(nF w).b λC u ac D k=>?_;subst ac;by_cases I:B=[]
   .subst I;have F:=m.length;refine .inr (.inr (.inr (.inr (Zv A C u ⟨rfl,rfl,G,D,?_⟩))));have:K=[]:=by cases K with |nil=>rfl|cons _ _=>simp at F
    subst this;exact Post.val c j (rA D k)
   .refine .inr (.inr (.inr (.inl (Zw A C B u ⟨rfl,rfl,G,D,I,(by rw[m.length,k.length];exact o),(λv=>?_),(λv p E=>Post.newt c j E (m.append k))⟩))));subst v;have F:=k.length;have:J=[]:=by cases J with |nil=>rfl|cons _ _=>simp at F
    subst this;rw[aN]at c;exact Post.val c j (rA G m)
  .exact c.elim
 .unfold As at c;split at c
  .rename_i T L P O;split at c
   .rename_i o;refine(QG j P s).b λA B al v m=>?_;subst al;refine(QG j O w).b λC u am M k=>?_;subst am;exact .inr (.inr (.inl (Zw A C B u ⟨rfl,rfl,v,M,(by rw[m.length,k.length];exact o),(λp E=>Post.newl c j E (m.append k))⟩)))
   .exact c.elim
  .exact c.elim
def mulC(i j:Int):Prop:=(-(2 ^ 64)<i/\i<2 ^ 64)\/(-(2 ^ 64)<j/\j<2 ^ 64)\/(i.natAbs.log2<4000/\j.natAbs.log2<4000)
theorem Au(h:i.natAbs.log2<4000):Builtin.Int.intBits i<=2 ^ 20:=by unfold Builtin.Int.intBits;split<;>lia
def mulC.ok(h:mulC i j):IntMulOk i j:=by
 rcases h with h|h|⟨h1,h2⟩
 .exact CMul.ok (.inl h)
 .exact CMul.ok (.inr h)
 .exact .of_bits (Au h1) (Au h2)
def Sa:OpR X (binaryOp .Mult) (rI mulC λi j=>.int (i * j)):=zAC λ_ _ _ _ _ _ _ a q=>mul_int q a.ok
instance(i j:Int):Decidable (mulC i j):=inferInstanceAs (Decidable (_\/_\/_))
def Xs(p:Er)(k:Int)(S:Sto):R Er:=match Ik S p with
 |some x=>if 0<=k/\k<100000/\x.length * k.toNat<=sizeLine then .ok (.new (List.replicate k.toNat x).flatten) S else .no
 |none=>.no
def lZ:Er->Er->Sto->R Er
 |.val (.int i),.val (.int j),S=>if mulC i j then .ok (.val (.int (i * j))) S else .no
 |.val (.str x),.val (.int k),S=>if 0<=k/\k<1000/\x.length<=1000 then .ok (.val (.str (PJ x k))) S else .no
 |p,.val (.int k),S=>Xs p k S
 |_,_,_=>.no
theorem DenL.rep{K:O0}(l:(DenL K α H ds vs)): ∀k:Nat,DenL K α H (List.replicate k ds).flatten (List.replicate k vs).flatten
 |0=>yA
 |k+1=>by rw[ŗ];exact l.append (DenL.rep l k)
theorem E1(C:zP X W a f)(F:zP X W b g):zP X W (.BinOp a .Mult b pos) (λu S=>(f u S).bind λp B=>(g u B).bind λq S2=>lZ p q S2):=by
 refine JE (Sa.or (XE.or A3)) ?_ C F;intro p q x y α S H Q k m o c;unfold lZ at c;split at c
 .split at c
  .rename_i j;exact .inl (Zr _ _ (yK m) (yK o) j (Post.val c k (yQ _)))
  .exact c.elim
 .split at c
  .rename_i j;exact .inr (.inl (Zb _ _ ⟨gA m,yK o,j.1,j.2.1,j.2.2,Post.val c k (eA _)⟩))
  .exact c.elim
 .unfold Xs at c;split at c
  .rename_i G A;split at c
   .rename_i j;refine(QG k A m).b λv w I D s=>?_;subst I;exact .inr (.inr (Zv v _ w ⟨rfl,yK o,D,(by lia),(by lia),(by rw[s.length];exact j.2.2),(λp E=>Post.newl c k E (s.rep _))⟩))
   .exact c.elim
  .exact c.elim
 .exact c.elim
noncomputable def zL:Nat:=40
def iQ(p q:Er)(S:Sto):R Er:=match BS S zL p q with
 |some k=>.ok (.val (.bl k)) S
 |none=>.no
def MH(p q:Er)(S:Sto):R Er:=match BS S zL p q with
 |some k=>.ok (.val (.bl !k)) S
 |none=>.no
theorem Kw(B:(X.A.units+64<cLine)):OpR X (compareOp .Eq) (λx y H Q=> ∃α S p q k,Wd X.g α S H/\DenX X.K α H p x/\DenX X.K α H q y/\BS S zL p q=some k/\Q (.bl k) H):=by intro pins s σ H x y v u Q I m b h;refine h.m λα S p q k C=>C.h λc j o e a=>?_;exact D3 I c zL (by unfold zL;lia) j o m b e X.prog X.w _ _ (ZC (.bl k) H I rfl a)
theorem Ky(B:(X.A.units+64<cLine)):OpR X (compareOp .NotEq) (λx y H Q=> ∃α S p q k,Wd X.g α S H/\DenX X.K α H p x/\DenX X.K α H q y/\BS S zL p q=some k/\Q (.bl (!k)) H):=by intro pins s σ H x y v u Q I m b h;refine h.m λα S p q k C=>C.h λc j o e a=>?_;exact D4 I c zL (by unfold zL;lia) j o m b e X.prog X.w _ _ (ZC (.bl (!k)) H I rfl a)
def Av:PR X W (λx y H Q=> ∃α S p q k,Wd X.g α S H/\DenX X.K α H p x/\DenX X.K α H q y/\BS S zL p q=some k/\Q (.bl k) H) iQ:=by
 intro p q x y α S H Q b c j a;unfold iQ at a;split at a
 .rename_i k e;exact Zp (α) S p q k ⟨b,c,j,e,Post.val a b (xI _)⟩
 .exact a.elim
def Aw:PR X W (λx y H Q=> ∃α S p q k,Wd X.g α S H/\DenX X.K α H p x/\DenX X.K α H q y/\BS S zL p q=some k/\Q (.bl (!k)) H) MH:=by
 intro p q x y α S H Q b c j a;unfold MH at a;split at a
 .rename_i k e;exact Zp (α) S p q k ⟨b,c,j,e,Post.val a b (xI _)⟩
 .exact a.elim
def zAW(o:(X.A.units+64<cLine))(c:zP X W a f)(m:zP X W b g):zP X W (.Compare a [.Eq] [b] pos) (λj S=>(f j S).bind λp k=>(g j k).bind λq S2=>iQ p q S2):=JF (Kw o) Av c m
def zAX(o:(X.A.units+64<cLine))(c:zP X W a f)(m:zP X W b g):BB X W (.Compare a [.Eq] [b] pos) (λj S=>((f j S).bind λp k=>(g j k).bind λq S2=>iQ p q S2).bind gB):=BQ (Kw o) Av c m
def zAY(o:(X.A.units+64<cLine))(c:zP X W a f)(m:zP X W b g):zP X W (.Compare a [.NotEq] [b] pos) (λj S=>(f j S).bind λp k=>(g j k).bind λq S2=>MH p q S2):=JF (Ky o) Aw c m
def zAZ(o:(X.A.units+64<cLine))(c:zP X W a f)(m:zP X W b g):BB X W (.Compare a [.NotEq] [b] pos) (λj S=>((f j S).bind λp k=>(g j k).bind λq S2=>MH p q S2).bind gB):=BQ (Ky o) Aw c m
def Kz:Er->Er->Sto->R Er
 |.val d,.val f,S=>match IB S zL d f with
  |some k=>.ok (.val (.bl k)) S
  |none=>.no
 |_,_,_=>.no
theorem XQ(q:(X.A.units+64<cLine)):OpR X (compareOp .Lt) (λx y H Q=> ∃α S d f k,Wd X.g α S H/\Den X.K α H d x/\Den X.K α H f y/\IB S zL d f=some k/\Q (.bl k) H):=by intro pins s σ H x y v u Q I m b h;refine h.m λα S d f k B=>B.h λc j o e a=>?_;exact XO I c zL X.A d f x y v u k (by unfold zL;lia) j o m b e X.prog X.w _ _ (ZC (.bl k) H I rfl a)
def QI:PR X W (λx y H Q=> ∃α S d f k,Wd X.g α S H/\Den X.K α H d x/\Den X.K α H f y/\IB S zL d f=some k/\Q (.bl k) H) Kz:=by
 intro p q x y α S H Q b c j a;unfold Kz at a;split at a
 .split at a
  .rename_i k e;exact Zp (α) S _ _ k ⟨b,c,j,e,Post.val a b (xI _)⟩
  .exact a.elim
 .exact a.elim
def zBA(o:(X.A.units+64<cLine))(c:zP X W a f)(m:zP X W b g):zP X W (.Compare a [.Lt] [b] pos) (λj S=>(f j S).bind λp k=>(g j k).bind λq S2=>Kz p q S2):=JF (XQ o) QI c m
def zBB(o:(X.A.units+64<cLine))(c:zP X W a f)(m:zP X W b g):BB X W (.Compare a [.Lt] [b] pos) (λj S=>((f j S).bind λp k=>(g j k).bind λq S2=>Kz p q S2).bind gB):=BQ (XQ o) QI c m
abbrev Xt:=zDB λi j=>decide (j<i)
def zBC(m:zP X W a f)(c:zP X W b g):zP X W (.Compare a [.Gt] [b] pos) (λj S=>(f j S).bind λp k=>(g j k).bind λq S2=>Xt p q S2):=JF Xf Kt m c
def zBD(m:zP X W a f)(c:zP X W b g):BB X W (.Compare a [.Gt] [b] pos) (λj S=>((f j S).bind λp k=>(g j k).bind λq S2=>Xt p q S2).bind gB):=BQ Xf Kt m c
noncomputable def zBE:Er->Er->Sto->R Er
 |.val (.int i),.val (.int j),S=>.ok (.val (.bl (decide (i<=j)))) S
 |.val (.str x),.val (.str y),S=>.ok (.val (.bl (!decide (y<x)))) S
 |_,_,_=>.no
def Sb(hu:(X.A.units+64<cLine))(C:zP X W a f)(D:zP X W b g)(w:zP X W c h)(Y:lastMarks [.LtE,.Lt] [b,c]=false:=by with_unfolding_all rfl):BB X W (.Compare a [.LtE,.Lt] [b,c] pos) (λB S=>((f B S).bind λp G=>(g B G).bind λq S2=>B5 zBE Kz p q S2 λS3=>h B S3).bind gB):=(by
  refine C.a λta C T=>?_;refine D.a λtb D L=>?_;refine w.a λtc w U=>?_;refine Z0 _ (Jf (zAF.or (show OpR X (compareOp .LtE) (λx y H Q=> ∃i j,x=.str i/\y=.str j/\Q (.bl (!(j.cps.toList<i.cps.toList))) H) by intro pins s σ H x y v u Q I M K h;refine h.b λi j V ac q=>?_;subst V;subst ac;obtain⟨t,rfl⟩:=M;obtain⟨t',rfl⟩:=K;exact PySem.P.le_str (ZC (.bl _) H I rfl q))) (XQ hu) C D w Y) (λα B S σ H Q o sl q=>?_);refine chain (by
    intro p q x y α S H Q o E F m;unfold zBE at m;split at m
    .exact .inl (ZC _ _ (yK E) (yK F) (Post.val m o (xI _)))
    .refine .inr (ZC _ _ (gA E) (gA F) ?_);rw[PF,PF];exact Post.val m o (xI _)
    .exact m.elim) QI T L U o sl (Q:=λx H'=> ∃k,x=.bl k/\Q k H') (q.bind λu p G N H1 e1 J w1 Z O=>?_);refine(UB (O.shift J)).a λk al q2=>?_;subst al;exact Z0 k (BA Z.1) (q2.here w1 rfl))
def getL(ds:Q0):Er->Sto->R Er
 |.val (.int i),S=>match qW ds i with |some d=>.ok (.val d) S|none=>.no
 |_,_=>.no
def yE:Er->Er->Sto->R Er
 |.val (.str x),.val (.int i),S=>if x.length<=sizeLine then match qW x i with |some c=>.ok (.val (.str [c])) S|none=>.no else .no
 |.val (.tup ds),q,S=>getL ds q S
 |p,q,S=>match wN S p with |some ds=>getL ds q S|none=>.no
def Sd{K:O0}(l:(DenL K α H ds vs))(e:qW ds i=some d): ∃v,qW vs i=some v/\Den K α H d v:=by
 unfold qW at e ⊢;rw[(l.length)]
 cases z:WZ ↑13 i with
 |none=>rw[z]at e;cases e
 |some j=>
  rw[z]at e;refine(l.at e).a λv b a=>?_;exact Z0 v b a
def Xu(F:zP X W a f)(J:zP X W b g)(hs:HZ b:=by exact λ_ _=>rfl):zP X W (.Subscript a b pos) (λG S=>(f G S).bind λp I=>(g G I).bind λq S2=>yE p q S2):=by
 refine Xn (Ql.or (ix_tup.or ix_str)) ?_ F J hs;intro p q x y α S H Q A o u c;have m: ∀{ds:Q0}{vs:List V}{i:Int}{d:MV},DenL X.K α H ds vs->qW ds i=some d->Post X.g W α H _ Q-> ∃v,qW vs i=some v/\Q v H:=λl e c=>by refine(Sd l e).a λv k j=>?_;exact⟨v,k,Post.val c A j⟩
 unfold yE at c;split at c
 .split at c
  .rename_i D;split at c
   .rename_i C e;refine .inr (.inr (Zv _ _ C ⟨gA o,yK u,(by rw[jN];exact D),(by rw[PF];exact e),?_⟩));exact Post.val c A (eA [C])
   .exact c.elim
  .exact c.elim
 .unfold getL at c;split at c
  .split at c
   .rename_i d e;refine(nF o).b λw vs L B s=>?_;subst L;refine(m s e c).a λv k j=>?_;exact .inr (.inl (Zw w vs _ v ⟨rfl,yK u,B,k,j⟩))
   .exact c.elim
  .exact c.elim
 .split at c
  .rename_i ds E;unfold getL at c;split at c
   .split at c
    .rename_i d e;refine(qA rfl A E o).b λw vs M B s=>?_;subst M;refine(m s e c).a λv k j=>?_;exact .inl (Zw w vs _ v ⟨rfl,yK u,B,k,j⟩)
    .exact c.elim
   .exact c.elim
  .exact c.elim
end
def MI{lo:M0}(j:IsTup s.heap t its)(hs:s.heap.IsSliceOf sl vl vu .none)(k:IsPart vl lo)(m:IsPart vu hi)
  (h0:HT.sIx its.size 0 lo=0) (h1:HT.sIx its.size its.size hi=its.size) (h:Q (.ref t) s):wpAny ↑3 A (getItem (.ref t) (.ref sl)) Q E s:=by
 have a:=j.typeIs;unfold getItem
 try with_reducible refine û ?_
 first |refine wB _|skip
 refine wB (wpAny_sequenceKey a ↑4 ?_);refine wB (ď a Į (õ Į a entry_tuple_getitem ?_ (args_tuple_getitem _ _)));show wpAny _ _ (Builtin.Tuple.tupleItemsOf _ >>= _) _ _ s;refine wB (tupleItemsOf_ j (wB (ı (by refine(id hs).c λos b c _=>?_;exact Z0 os b c) ?_)));refine wB (HT.sliceApplied_gen hs k m ?_);(show wpAny _ _ (if _=true then _ else _) _ _ s);rw[iP (by rw[h0,h1];simp)];refine wB (wB (ı a (wP ?_)));refine wB (ĩ ?_)
 first
  |exact wP (Z0 _ rfl (wP h))
  |exact wB _
  |exact wB _
section
variable{e:Expr}{h:AX}
def Se:SlR X (λx lo hi H Q=> ∃a xs,x=.ref a/\SqT X.K H a xs/\HT.sIx ↑12 0 lo=0/\HT.sIx ↑12 ↑12 hi=↑12/\Q (.ref a) H):=by
 intro pins s σ H x v A B lo hi sl Q I w hs k u h;refine h.j λa xs D=>D.h λE m o y q=>?_;subst E;subst w;refine(I.tuple m).c λc r j C=>?_;have b:c.toArray.size=xs.length:=by rw[sA];exact r.length.symm
 exact ZC _ _ PyProof.Rows.slot_tuple_getitem.lookup j.typeIs (MI j hs k u (by rw[b];exact o) (by rw[b];exact y) (ZC (.ref a) H I rfl q))
def iI:Er->Option Int->Option Int->Sto->R Er
 |.val (.str x),lo,hi,S=>if x.length<=sizeLine then .ok (.val (.str (jA x lo hi))) S else .no
 |.val (.tup ds),lo,hi,S=>.ok (.val (.tup (jA ds lo hi))) S
 |p,lo,hi,S=>match wN S p with |some ds=>.ok (.new (jA ds lo hi)) S|none=>.no
def Fn{lo:M0}(b:HT.sIx ↑13 0 lo=0)(a:HT.sIx ↑13 ↑13 hi=↑13):jA ds lo hi=ds:=by unfold jA;rw[b,a];simp
def E4{lo:Option Expr}(C:zP X W a f)(D:B3 X W lo lf)(A:B3 X W hi hf):zP X W (.Subscript a (.Slice lo hi none p2) pos) (λv S=>(f v S).bind λp y=>(lf v y).bind λl S2=>(hf v S2).bind λu S3=>iI p l u S3):=by
 refine Kh (A5.or (Qm.or (Zx.or Se))) ?_ C D A;intro p lo hi x α S H Q k q b;unfold iI at b;split at b
 .split at b
  .rename_i B;exact .inl (ZB _ (gA q) B (Post.val b k (eA _)))
  .exact b.elim
 .rename_i _ _ _ w;refine(nF q).b λo c F m j=>?_;subst F;by_cases hw:HT.sIx c.length 0 lo=0/\HT.sIx c.length c.length hi=c.length
  .have e:=Fn (by rw[<-(j.length)];exact hw.1) (by rw[<-(j.length)];exact hw.2);rw[e]at b;exact .inr (.inr (.inr (YZ o c rfl m hw.1 hw.2 (Post.val b k (rA m j)))))
  .exact .inr (.inr (.inl (Zr o c rfl m hw (λp s=>Post.newt b k s (j.cut lo hi)))))
 .split at b
  .rename_i w E;refine(qA rfl k E q).b λo c G m j=>?_;subst G;exact .inr (.inl (ZC o c rfl m (λp s=>Post.newl b k s (j.cut lo hi))))
  .exact b.elim
theorem DenL.pick{K:O0}(l:(DenL K α H ds vs)): ∀j:List Nat,DenL K α H (j.filterMap (ds[·]?)) (j.filterMap (vs[·]?))
 |[]=>yA
 |i::j=>by
  cases z:ds[i]? with
  |none=>
   rw[ņ z,ņ (by rw[į,(l.length)];exact į.mp z)];exact DenL.pick l j
  |some d=>
   refine(l.at z).a λv m k=>?_;rw[ŋ z,ŋ m];exact zV k (DenL.pick l j)
theorem Vals.pick(r:Vals xs us): ∀j:List Nat,Vals (j.filterMap (xs[·]?)) (j.filterMap (us[·]?))
 |[]=>.nil
 |i::j=>by
  cases z:xs[i]? with
  |none=>rw[ņ z,ņ (r.none_of z)];exact Vals.pick r j
  |some d=>
   refine(r.get z).a λv m k=>?_;rw[ŋ z,ŋ m];exact .cons k (Vals.pick r j)
end
section
variable{X:Cx}{W:XW}{a b c e:Expr}{g h:AX}
def UF(S:Sto)(n:Nat)(d:MV):List MV->Option (List Bool)
 |[]=>some []
 |y::ys=>(eqv S n y d).bind λk=>(UF S n d ys).map (k::·)
section
variable{α:B9}{S:Sto}{H:Hp}{pins:L0}{σ:St}{s:ř}
def Sf(X:Cx)(α:B9)(S:Sto)(H:Hp)(n:Nat)(d:MV)(u:Ś):Bool:=open Classical in decide (∃y x,Den X.K α H y x/\RelV x u/\eqv S n y d=some true)
open Classical in
def Sh(I:↑1)(m:↑19){n:Nat}{d y:MV}{x:V}{u:Ś}{k:Bool}(b:Den X.K α H y x)(r:RelV x u)(e:eqv S n y d=some k):Sf X α S H n d u=k:=by
 unfold Sf
 cases k with
 |true=>exact dT0 ⟨y,x,b,r,e⟩
 |false=>
  refine dF0 λ⟨q,v,a,o,c⟩=>?_;have j:=r.inj o;subst j;rw[b.inj I m a]at e;rw[e]at c;cases c
theorem DB(I:↑1)(m:↑19)(b:A.units+n<cLine)(dd:Den X.K α H d x)(o:RelV x v): ∀{j}{vs}{q}{bs},DenL X.K α H j vs->Vals vs q->UF S n d j=some bs->
  q.map (Sf X α S H n d)=bs/\ ∀u∈q,SeqAt.EqAt A s u v (Sf X α S H n d u)
 |[],_,_,bs,l,r,e=>by cases l.isnil;cases r;cases e;exact⟨rfl,λu b=>by cases b⟩
 |y::j,_,_,bs,l,r,e=>by
  refine l.uncons.b λJ N E B G=>?_;subst E
  cases r with
  |cons r1 r2=>
   unfold UF at e
   cases z:eqv S n y d with
   |none=>rw[z]at e;cases e
   |some k=>
    rw[z]at e
    cases c:UF S n d j with
    |none=>simp[c]at e
    |some cs=>
     simp[c]at e;subst e;obtain⟨D,C⟩:=DB I m b dd o G r2 c;have w:=Sh I m B r1 z;refine⟨by rw[í,D,w],λu a=>?_⟩;rcases mC.mp a with rfl|a
     .rw[w];exact FB I m n A y d _ _ _ _ k b B dd r1 o z
     .exact C u a
end
theorem any_map{a:A0}{f:Ś->Bool}(h:a.map f=bs):a.toArray.any f=bs.any id:=by subst h;simp[List.any_map]
def itemsOf(S:Sto):Er->Option (List MV)
 |.val (.tup ds)=>some ds
 |r=>wN S r
def DC(b:↑19)(e:itemsOf S r=some ds)(d:(DenX X.K α H r x)): ∃a vs,x=.ref a/\(SqL X.K H a vs\/SqT X.K H a vs)/\DenL X.K α H ds vs:=by
 unfold itemsOf at e;split at e
 .cases e;refine(nF d).b λa vs j s l=>?_;subst j;exact ZC a vs rfl (.inr s) l
 .refine(qA rfl b e d).b λa vs k s l=>?_;subst k;exact ZC a vs rfl (.inl s) l
def rC(a:Bool)(p q:Er)(S:Sto):R Er:=match p with
 |.val d=>match itemsOf S q with
  |some ys=>match UF S zL d ys with
   |some bs=>.ok (.val (.bl (if a=true then !bs.any id else bs.any id))) S
   |none=>.no
  |none=>.no
 |.new _=>.no
def MK(a:Bool):Er->Er->Sto->R Er
 |.val (.str [c]),.val (.str y),S=>.ok (.val (.bl (if a=true then !decide (c∈y)else decide (c∈y)))) S
 |p,q,S=>rC a p q S
abbrev La(X:Cx)(a:Bool):R2:=λx y H Q=> ∃α S d q b bs,Wd X.g α S H/\Den X.K α H d x/\DenX X.K α H q y/\itemsOf S q=some b/\UF S zL d b=some bs/\Q (.bl (if a=true then !bs.any id else bs.any id)) H
theorem E5(M:(X.A.units+64<cLine)):OpR X (compareOp .In) (La X false):=by
 intro pins s σ H x y v u Q I C F h;refine h.w λα S d q L bs N=>N.g λm E G J D B=>?_;refine(DC m J G).b λa K O b l=>?_;subst O;subst F;rcases b with b|b
 .obtain⟨o,r,k,_⟩:=I.list b;(obtain⟨j,c⟩:=DB I m (A:=X.A.in1) (by show X.A.units+1+zL<cLine;unfold zL;lia) E C l r D);refine SeqAt.in_listAt _ k.isList (λw hw=>c w (by simpa using hw)) ⟨.bl _,H,I,rfl,?_⟩;rw[any_map j];exact B
 .obtain⟨o,r,k,_⟩:=I.tuple b;(obtain⟨j,c⟩:=DB I m (A:=X.A.in1) (by show X.A.units+1+zL<cLine;unfold zL;lia) E C l r D);refine SeqAt.in_tupleAt _ k (λw hw=>c w (by simpa using hw)) ⟨.bl _,H,I,rfl,?_⟩;rw[any_map j];exact B
theorem Fo(M:(X.A.units+64<cLine)):OpR X (compareOp .NotIn) (La X true):=by
 intro pins s σ H x y v u Q I C F h;refine h.w λα S d q L bs N=>N.g λm E G J D B=>?_;refine(DC m J G).b λa K O b l=>?_;subst O;subst F;rcases b with b|b
 .obtain⟨o,r,k,_⟩:=I.list b;(obtain⟨j,c⟩:=DB I m (A:=X.A.in1) (by show X.A.units+1+zL<cLine;unfold zL;lia) E C l r D);refine SeqAt.notIn_listAt _ k.isList (λw hw=>c w (by simpa using hw)) ⟨.bl _,H,I,rfl,?_⟩;rw[any_map j];exact B
 .obtain⟨o,r,k,_⟩:=I.tuple b;(obtain⟨j,c⟩:=DB I m (A:=X.A.in1) (by show X.A.units+1+zL<cLine;unfold zL;lia) E C l r D);refine SeqAt.notIn_tupleAt _ k (λw hw=>c w (by simpa using hw)) ⟨.bl _,H,I,rfl,?_⟩;rw[any_map j];exact B
def Ax:PR X W (λx y H Q=>(∃i j,x=.str i/\y=.str j/\Q (.bl (if neg=true then !(!(Builtin.Str.occurrences j i 0 (j.length) 1).isEmpty)else !(Builtin.Str.occurrences j i 0 (j.length) 1).isEmpty)) H)\/La X neg x y H Q) (MK neg):=by
 intro p q x y α S H Q b c k a;unfold MK at a;split at a
 .refine .inl (ZC _ _ (gA c) (gA k) ?_);rw[<-Qu,PySem.StrLaws.found_one];exact Post.val a b (xI _)
 .unfold rC at a;split at a
  .rename_i d _;split at a
   .rename_i s o;split at a
    .rename_i bs m;exact .inr (YK (α) S _ q s bs ⟨b,c,k,o,m,Post.val a b (xI _)⟩)
    .exact a.elim
   .exact a.elim
  .exact a.elim
def OpR.imp{f:Ś->Ś->Sem Ś}(h:OpR X f r)(i: ∀x y H Q,r' x y H Q->r x y H Q):OpR X f r':=λpins s σ H x y v u Q I a b q=>h pins s σ H x y v u Q I a b (i x y H Q q)
def zBF(s:(X.A.units+64<cLine))(c:zP X W a f)(o:zP X W b g)(m:behindInMarks .In b=false:=by with_unfolding_all rfl):zP X W (.Compare a [.In] [b] pos) (λj S=>(f j S).bind λp k=>(g j k).bind λq S2=>MK false p q S2):=JF ((OpR.imp (Eb.or (E5 s)) λx y H Q q=>q.imp (λq=>q) λq=>q)) Ax c o m
def Lb(s:(X.A.units+64<cLine))(c:zP X W a f)(o:zP X W b g)(m:behindInMarks .NotIn b=false:=by with_unfolding_all rfl):BB X W (.Compare a [.NotIn] [b] pos) (λj S=>((f j S).bind λp k=>(g j k).bind λq S2=>MK true p q S2).bind gB):=BQ ((OpR.imp (OV.or (Fo s)) λx y H Q q=>q.imp (λq=>q) λq=>q)) Ax c o m
def eZ{K:O0}(d:ArgsX K α H [r] vs): ∃v,vs=[v]/\DenX K α H r v:=by
 cases d with
 |cons a l=>cases l;exact Z0 _ rfl a
def Xv{K:O0}(d:ArgsX K α H [r,r'] vs): ∃v u,vs=[v,u]/\DenX K α H r v/\DenX K α H r' u:=by
 cases d with
 |cons a l=>refine(eZ l).a λu j b=>?_;subst j;exact ZC _ u rfl a b
def kE:List Er->Sto->R Er
 |[.val (.str x)],S=>if x.length<=sizeLine then .ok (.val (.int x.length)) S else .no
 |[r],S=>match itemsOf S r with |some ds=>.ok (.val (.int ds.length)) S|none=>.no
 |_,_=>.no
def Lc:aT X W (λxs H Q=>(∃z,xs=[.str z]/\z.length<=sizeLine/\Q (.int z.length) H)\/ ∃p j,xs=[.ref p]/\(SqL X.K H p j\/SqT X.K H p j)/\Q (.int j.length) H) kE:=by
 intro w s α S H Q c d b;unfold kE at b;split at b
 .split at b
  .rename_i o;refine(eZ d).a λv y k=>?_;subst y;cases gA k;refine .inl ⟨_,rfl,by rw[jN];exact o,?_⟩;exact Post.val b c (yQ _)
  .exact b.elim
 .split at b
  .rename_i u e;refine(eZ d).a λv A k=>?_;subst A;refine(DC c e k).b λa m B q l=>?_;subst B;refine .inr (ZC a m rfl q ?_);rw[(l.length)];exact Post.val b c (yQ _)
  .exact b.elim
 .exact b.elim
def NP:CallR X (.builtin "len") (λxs H Q=>(∃z,xs=[.str z]/\z.length<=sizeLine/\Q (.int z.length) H)\/ ∃p j,xs=[.ref p]/\(SqL X.K H p j\/SqT X.K H p j)/\Q (.int j.length) H):=OZ.or (by
  intro pins s σ H xs w Q I r h;refine h.b λp j A b q=>?_;subst A;refine(vals1 r).a λu B o=>?_;subst B;subst o;have y:=ES;rcases b with b|b
  .obtain⟨k,m,c,v⟩:=I.list b;have a:=m.length;exact Calls.call_len_list c.isList (by simp only[sA]<;>lia) ⟨.int (j.length),H,I.tok _,⟨_,by rw[sA,a]⟩,q⟩
  .obtain⟨k,m,c,v⟩:=I.tuple b;have a:=m.length;exact len_tuple c (by simp only[sA]<;>lia) ⟨.int (j.length),H,I.tok _,⟨_,by rw[sA,a]⟩,q⟩)
noncomputable def iR:List MV->Option (List Bool)
 |[]=>some []
 |.bl b::r=>(iR r).map (b::·)
 |_::_=>none
theorem FC{K:O0}: ∀{ds}{bs}{vs},iR ds=some bs->DenL K α H ds vs->vs=bs.map V.bl
 |[],_,_,e,l=>by cases e;exact l.isnil
 |d::r,bs,_,e,l=>by
  cases d with
  |bl b=>
   unfold iR at e
   cases z:iR r with
   |none=>rw[z]at e;cases e
   |some cs=>
    rw[z]at e;cases e;refine l.uncons.b λv m a j k=>?_;subst a;rw[eV j,FC z k];rfl
  |_=>cases e
def Ld:List Er->Sto->R Er
 |[r],S=>match (wN S r).bind iR with |some bs=>.ok (.val (.bl (bs.all id))) S|none=>.no
 |_,_=>.no
def UG:List Er->Sto->R Er
 |[r],S=>match (wN S r).bind iR with |some bs=>.ok (.val (.bl (bs.any id))) S|none=>.no
 |_,_=>.no
def E7(k:X.calm=true):aT X W (λxs H Q=> ∃(a:Addr)(bs:L1),xs=[.ref a]/\SqL X.K H a (bs.map V.bl)/\X.calm=true/\Q (.bl (bs.all id)) H) Ld:=by
 intro u o α S H Q c d b;unfold Ld at b;split at b
 .split at b
  .rename_i bs e;refine(eZ d).a λv y m=>?_;subst y
   cases z:wN S _ with
   |none=>rw[z]at e;cases e
   |some ds=>
    rw[z]at e;refine(qA rfl c z m).b λj q A s l=>?_;subst A;refine Zr j bs rfl ?_ k (Post.val b c (xI _));rw[<-FC e l];exact s
  .exact b.elim
 .exact b.elim
def QJ(S:Sto):Er->Option String
 |.val .non=>some "NoneType"
 |.val (.bl _)=>some "bool"
 |.val (.int _)=>some "int"
 |.val (.str _)=>some "str"
 |.val (.tup _)=>some "tuple"
 |.val (.typ _)=>none
 |.val (.obj _ _ _)=>none
 |r=>(wN S r).map λ_=>"list"
noncomputable def Si(t T:String):Bool:=t==T || (t=="bool"&&T=="int")
noncomputable def known(T:String):Bool:=T=="int" || T=="bool" || T=="str" || T=="tuple" || T=="list"
def FD:List Er->Sto->R Er
 |[r,.val (.typ T)],S=>match QJ S r with
  |some t=>if known T=true then .ok (.val (.bl (Si t T))) S else .no
  |none=>.no
 |_,_=>.no
theorem eR(K)(c:t="NoneType"\/t="bool"\/t="int"\/t="str"\/t="tuple"\/t="list")(b:known T=true):PySem.W.kitOne K (.type t) (.type T)=some (Si t T):=by
 have a:T="int"\/T="bool"\/T="str"\/T="tuple"\/T="list":=by
  unfold known at b;simp only[Bool.or_eq_true,Ħ]at b;rcases b with(((h|h)|h)|h)|h
  .exact .inl h
  .exact .inr (.inl h)
  .exact .inr (.inr (.inl h))
  .exact .inr (.inr (.inr (.inl h)))
  .exact .inr (.inr (.inr (.inr h)))
 rcases c with rfl|rfl|rfl|rfl|rfl|rfl<;>rcases a with rfl|rfl|rfl|rfl|rfl<;>kernel_rfl
def Lf:CallR X (.builtin "isinstance") (λxs H Q=> ∃α S r x t T,xs=[x,.ty T]/\Wd X.g α S H/\DenX X.K α H r x/\QJ S r=some t/\known T=true/\Q (.bl (Si t T)) H):=by
 intro pins s σ H xs F Q I D h;refine h.w λα S r x t T J=>J.g λL E d c k q=>?_;subst L;refine(vals2 D).b λu G M j A=>?_;subst M;subst A;have b: ∀tk,EP X pins σ Q _ {s with toks:=tk}:=λtk=>(ZC (.bl _) H (I.tok _) rfl q)
 unfold QJ at c;split at c
 .cases c;cases XI d;subst j;exact PySem.W.kia_one PySem.W.kitx_none I.kIn True.intro (eR X.K (.inl rfl) k) (λz=>nomatch z) b
 .cases c;cases BA d;subst j;exact PySem.W.kia_one PySem.W.kitx_bool I.kIn True.intro (eR X.K (.inr (.inl rfl)) k) (λz=>nomatch z) b
 .cases c;cases yK d;obtain⟨t,rfl⟩:=j;exact PySem.W.kia_one PySem.W.kitx_int I.kIn True.intro (eR X.K (.inr (.inr (.inl rfl))) k) (λz=>nomatch z) b
 .cases c;cases gA d;obtain⟨t,rfl⟩:=j;exact PySem.W.kia_one PySem.W.kitx_str I.kIn True.intro (eR X.K (.inr (.inr (.inr (.inl rfl)))) k) (λz=>nomatch z) b
 .cases c;refine(nF d).b λa B N w l=>?_;subst N;subst j;refine(I.tuple w).c λy C p1 _=>?_;refine p1.c λo v m _=>?_;exact PySem.W.kia_one PySem.W.kitx_tuple I.kIn (Z0 o v m) (eR X.K (.inr (.inr (.inr (.inr (.inl rfl))))) k) (λz=>nomatch z) b
 .cases c
 .cases c
 .cases z:wN S r with
  |none=>rw[z]at c;cases c
  |some ds=>
   rw[z]at c;cases c;refine(qA rfl E z d).b λa B O w l=>?_;subst O;subst j;refine(I.list w).c λy C p1 _=>?_;refine p1.isList.c λo v m _=>?_;exact PySem.W.kia_one PySem.W.kitx_list I.kIn (Z0 o v m) (eR X.K (.inr (.inr (.inr (.inr (.inr rfl))))) k) (λz=>nomatch z) b
def E8:aT X W (λxs H Q=> ∃α S r x t T,xs=[x,.ty T]/\Wd X.g α S H/\DenX X.K α H r x/\QJ S r=some t/\known T=true/\Q (.bl (Si t T)) H) FD:=by
 intro q o α S H Q b d a;unfold FD at a;split at a
 .split at a
  .rename_i t k;split at a
   .rename_i j;refine(Xv d).b λv u y c m=>?_;subst y;cases B2 m;exact YK (α) S _ v t _ ⟨rfl,b,c,k,j,Post.val a b (xI _)⟩
   .exact a.elim
  .exact a.elim
 .exact a.elim
def wX:List Er->Sto->R Er
 |[.val (.tup ds)],S=>.ok (.val (.tup ds)) S
 |[r],S=>match wN S r with |some ds=>.ok (.val (.tup ds)) S|none=>.no
 |_,_=>.no
def Lg:aT X W (λxs H Q=> ∃p j,xs=[.ref p]/\((SqL X.K H p j/\ ∀l,H l=none->Q (.ref l) (yV H l (.tup j)))\/(SqT X.K H p j/\Q (.ref p) H))) wX:=by
 intro w s α S H Q k d b;unfold wX at b;split at b
 .obtain⟨v,rfl,o⟩:=eZ d;refine(nF o).b λa m y c l=>?_;subst y;exact Zy a m rfl (.inr ⟨c,Post.val b k (rA c l)⟩)
 .split at b
  .rename_i u e;refine(eZ d).a λv A o=>?_;subst A;refine(qA rfl k e o).b λa m B c l=>?_;subst B;exact Zy a m rfl (.inl ⟨c,λp q=>Post.newt b k q l⟩)
  .exact b.elim
 .exact b.elim
def HA:List Er->Sto->R Er
 |[r],S=>match itemsOf S r with |some ds=>.ok (.new ds) S|none=>.no
 |_,_=>.no
def Sj:aT X W (λxs H Q=> ∃p j,xs=[.ref p]/\(SqL X.K H p j\/SqT X.K H p j)/\ ∀l,H l=none->Q (.ref l) (yV H l (.lst j))) HA:=by
 intro w s α S H Q c d b;unfold HA at b;split at b
 .split at b
  .rename_i u e;refine(eZ d).a λv y o=>?_;subst y;refine(DC c e o).b λa k A q l=>?_;subst A;exact ZC a k rfl q (λp m=>Post.newl b c m l)
  .exact b.elim
 .exact b.elim
def QK:bootBuiltins "len"=some (.builtin "len"):=by decide+kernel
def E9:bootBuiltins "all"=some (.builtin "all"):=by decide+kernel
def Lh:bootBuiltins "any"=some (.builtin "any"):=by decide+kernel
def ML:bootBuiltins "isinstance"=some (.builtin "isinstance"):=by decide+kernel
def F3:bootBuiltins "int"=some (.type "int"):=by decide+kernel
def Sk:bootBuiltins "bool"=some (.type "bool"):=by decide+kernel
def F4:bootBuiltins "str"=some (.type "str"):=by decide+kernel
def DE:bootBuiltins "tuple"=some (.type "tuple"):=by decide+kernel
def Ay:bootBuiltins "list"=some (.type "list"):=by decide+kernel
end
section
variable{X:Cx}{a o:Expr}{es:N0}{g h:AX}{pos apos:Pos}
noncomputable def JO:Er->Sto->Bool
 |.val (.str _),_=>true
 |_,_=>false
def gU(p:Er)(S:Sto):Bool:=(wN S p).isSome
def Li:TyM X "list" gU:=by
 intro p x α S H c d h;unfold gU at h
 cases z:wN S p with
 |none=>rw[z]at h;cases h
 |some ds=>
  refine(qA rfl c z d).b λa b j s l=>?_;subst j;exact .inl ⟨rfl,b,s⟩
def strIdx(x y:Db):Option Nat:=(Builtin.Str.occurrences (gO x) (gO y) 0 (gO x).length 1).head?
noncomputable def MM(p:Er)(S:Sto)(G:List MV->Option (List MV)):R Er:=match p with
 |.val (.loc l)=>match S[l]? with
  |some (.lst ds)=>match G ds with
   |some es=>.ok (.val .non) (S.set l (.lst es))
   |none=>.no
  |_=>.no
 |_=>.no
def NQ(c:↑19)(q:Ext α0 H0 α H)(u:DenX X.K α H p x)(b:Post X.g W α0 H0 (MM p S G) Q):
  ∃a vs ds es,x=.ref a/\H a=some (.lst vs)/\DenL X.K α H ds vs/\G ds=some es/\ ∀j,DenL X.K α H es j->Q .non (yV H a (.lst j)):=by
 unfold MM at b;split at b
 .rename_i l;refine(eW u).a λa B h=>?_;subst B;refine(c.of h).a λob w v=>?_;rw[w]at b
  cases ob with
  |lst ds=>
   refine v.a λvs k A=>?_;have b:Post X.g W α0 H0 (match G ds with |some es=>R.ok _ _|none=>R.no) Q:=b;split at b
   .rename_i es s;refine Zw a vs ds es ⟨rfl,k,A,s,(λj y=>?_)⟩;have m:=c.writex h (Xk k) (o:=.lst j);exact(b.shift (q.trans m)).val (c.write h (Xk k) (Z0 j zO (y.ext m))) qZ
   .exact b.elim
  |dic _=>exact b.elim
  |ins _ _=>exact b.elim
  |rcd _ _=>exact b.elim
  |fdc _=>exact b.elim
 .exact b.elim
def AQ:Er->List Er->Sto->R Er
 |p,[r],S=>(cG r S).bind λy j=>MM p j λds=>if ds.length<sizeLine then some (ds++[y])else none
 |_,_,_=>.no
def Fq:Fc X W Af AQ:=by
 intro p M x P α S J H Q s I F v j b
 match M,j,b with
 |[],_,b=>exact b.elim
 |_::_::_,_,b=>exact b.elim
 |[r],j,b=>
  cases j with
  |cons d n l=>
   cases l;refine(eQ I F d).o λT O α' N C G L E=>?_;have b:Post X.g W s J ((cG r S).bind λy D=>MM p D λq=>if q.length<sizeLine then some _ else none) Q:=b;rw[N]at b
   have o:DenX X.K α' H p x:=by
    cases p with
    |val m=>exact Den.ex0 G v
    |new q=>exact b.elim
   refine(NQ L C o b).l λa w q es U B u c k=>?_;subst U;split at c
   .rename_i A;cases c;exact Zv a w _ ⟨rfl,rfl,B,(by rw[u.length];exact A),k _ (u.append (zV E yA))⟩
   .cases c
def Fs(A:zP X W a f)(w:(GY X W (e::es) af))
  (hbase:attributeBase a "append" X.env (eval a X.env)=eval a X.env:=by rfl)
  (hfew:((backTo pos (starEach (e::es) X.env)).all (λx=>!x.1)&&(backToKw pos (keywordEach [] X.env)).all (λx=>x.1.isSome)
   &&decide ↑6)=true:=by rfl)
  (hline:(apos.endLine==pos.line)=true:=by rfl) (hs:q9 X e es:=by rfl) (hplain:Q1 X pos es:=by rfl):
  zP X W (.Call (.Attribute a "append" apos) (e::es) [] pos) (λj S=>(f j S).bind λp k=>if gU p k=true then(af j k).bind λrs S2=>AQ p rs S2 else .no):=
 PX PySem.F.plainAttrs_list PySem.F.slot_list_append PySem.F.type_list_append (by
   intro pins s σ H x E v C Q I o m h;refine h.o λl xs y J K c D q=>?_;subst J;subst K;subst o;refine m.one.a λu L B=>?_;subst L;obtain⟨z,b,n,r,G,e⟩:=I.lstM c;refine call_meets F.slot_list_append ⟨_,e,rfl⟩ F.entry_list_append (F.args_list_append_2 _ _) (PySem.list_append l b.toArray n u (by rw[sA];lia)) ⟨e,?_⟩;refine ZC .non _ (I.lset c e (by simp) (r.append (.cons B .nil)) ?_) rfl q;refine qq lA (qq lS ?_)
   lia) Fq Li A w hbase hfew hline hs hplain
def NS(p q:Er)(d:MV)(a:Rho)(S:Sto):R Rho:=match p,q with
 |.val (.loc l),.val (.int k)=>match S[l]? with
  |some (.lst ds)=>match WZ ds.length k with
   |some j=>.ok a (S.set l (.lst (ds.set j d)))
   |none=>.no
  |_=>.no
 |_,_=>.no
def F5(c:zP X W o f)(hi:zP X W i g)
  (ha: ∀v,assign (.Subscript o i pos) X.env v=(do
   let B <-holding [v] (eval o X.env);let G <-holding [v,B] (eval i X.env)
   standAt pos
   holding [v,B,G] (setItem B G v)
   release [v,B,G] []):=by intro _;rfl):Kk X W (.Subscript o i pos) (λd m S=>(f m S).bind λp N=>(g m N).bind λq S2=>NS p q d m S2):=by
 refine c.a λto c fo=>?_;refine hi.a λti hi fi=>?_;refine(Z0 _ (Iw c hi (show Zf X zAP by
   intro pins s σ H o i v B G u Q I ro ri rv h;refine h.l λp xs k j V ac U hj q=>?_;subst V;subst ac;cases ro;obtain⟨t,rfl⟩:=ri;refine(I.lst U).b λC n r c hz=>?_;refine(Ae hj).e λy Z w O=>?_;have K:=r.length;have hn:=ES
   have P:Inv X pins σ _ {s with heap:=s.heap.update p _}:=
    I.lstUpd U c (XA C n j u) (r.set rv j) (by rw[ā];exact hz) s.toks
   by_cases T:0<=k
   .have M:=by rw[seqIndex_of T O]at y;exact å y
    exact PySem.W.ki_setAt c T #[0] (by rw[sA, <-K];exact O) (by rw[M];exact⟨_,P,q⟩)
   .have M:(k+(C.toArray.size:Int)).toNat=j:=by rw[seqIndex_neg #[0] w]at y;rw[sA, <-K];exact å y
    exact PySem.W.ki_setBack c #[0] (by rw[sA, <-K];exact w) #[0] (by rw[M];exact⟨_,P,q⟩)) ha) (λα m S σ H d v Q wd sl de q=>fo α m S σ H _ wd sl (q.bind λu p N F H1 e1 D w1 d1 q1=>fi F m N σ H1 _ w1 (sl.ext D) ((q1.shift D).bind λu2 p2 S2 A H2 e2 E J d2 b=>?_))))
 replace b:=b.shift E
 unfold NS at b;split at b
 .rename_i l k;refine(eW (DenX.ext E d1.1)).a λa al h=>?_;subst al;cases yK d2.1;refine(J.of h).a λob y Z=>?_;rw[y]at b
  cases ob with
  |lst ds=>
   refine Z.a λY w l1=>?_;have b:Post X.g W A H2 (match WZ ds.length k with |some j=>R.ok m _|none=>R.no) Q:=b;split at b
   .rename_i j ej;have L:=J.writex h (Xk w) (o:=.lst (Y.set j v));exact Zw a Y k j ⟨rfl,rfl,w,(by rw[l1.length];exact ej),b σ A _ L (J.write h (Xk w) (Z0 _ zO ((l1.set ((de.ext D).ext E) j).ext L))) (((sl.ext D).ext E).ext L)⟩
   .exact b.elim
  |dic _=>exact b.elim
  |ins _ _=>exact b.elim
  |rcd _ _=>exact b.elim
  |fdc _=>exact b.elim
 .exact b.elim
end
def _root_.L2.Inv.turnedL{fp:B9}(I:↑1)(k: ∀b o,b∉fp->s.heap.get? b=some o->h'.get? b=some o)
  (hf: ∀b∈fp,CS X pins H b):Inv X pins σ H {s with heap:=h',toks:=t'}:=by
 have j: ∀b u,H b=some u->b∉fp:=λb u e z=>by rw[(hf b z).1]at e;cases e
 refine I.step (λb w=>⟨(hf b w).2.2.2.1,(hf b w).2.1,(hf b w).2.2.2.2.1,(hf b w).2.2.2.2.2⟩) (λb o _ _ a e _=>k b o a e) (λb o _ _ a e _=>⟨_,k b o a e⟩) (λ_ _ _ _ n=>n)
  (λb o a e=>⟨o,k b o a e⟩) (λ_ _ e=>e) (λ_ _ _ e=>e) (λ_ _ e=>e) (λm y=>?_) (λb u e=>?_) I.bare
 .refine y.n λo es A B r=>?_;exact Zc o es A (k _ o (λz=>(hf _ z).2.1 rfl) B) r
 .refine(I.hok b u e).stay (λc v a q=>k c v ?_ q) (λ_ q=>q) (λ_ _ q=>q) λ_ _ _ q=>q;rcases a with z|z
  .rw[z];exact j b u e
  .exact j c _ z
def IsSub(k:Bool)(h:Heap)(a l:Addr)(i:Nat):Prop:=if k=true then h.IsListIter a l i else h.IsTupleIter a l i
def JP(k:Bool)(h:Heap)(l:Addr)(a:B0):Prop:=if k=true then h.IsList l a else h.IsTuple l a
noncomputable def QL(k:Bool)(l:Addr):Obj:={cls:=.type (if k=true then "list_iterator" else "tuple_iterator"),data:=.fields #[.ref l,.int 0 0]}
def IsSub.mk'(e:h.get? it=some (QL k l)):IsSub k h it l 0:=by
 cases k with
 |true=>exact ZB _ e rfl rfl
 |false=>exact ZB _ e rfl rfl
def IsSub.there(x:IsSub k h it l i): ∃o,h.get? it=some o/\ ∀v,o.data≠.cell v:=by
 cases k with
 |true=>obtain⟨o,e,_,d⟩:=(x:h.IsListIter it l i);exact⟨o,e,λv z=>by rw[d]at z;cases z⟩
 |false=>obtain⟨o,e,_,d⟩:=(x:h.IsTupleIter it l i);exact⟨o,e,λv z=>by rw[d]at z;cases z⟩
def IsSub.move(x:IsSub k h it l i)(f: ∀o,h.get? it=some o->h'.get? it=some o):IsSub k h' it l i:=by
 cases k with
 |true=>refine(x:h.IsListIter it l i).a λo e r=>?_;exact Z0 o (f o e) r
 |false=>refine(x:h.IsTupleIter it l i).a λo e r=>?_;exact Z0 o (f o e) r
section
def JQ(a:JP k s.heap l its)(h:Q (.ref ↑0) {s with heap:=s.heap.push (QL k l)}):wpAny ↑3 A (pyIter (.ref l)) Q E s:=by
 cases k with
 |true=>exact Ŀ a h
 |false=>exact wpAny_pyIter_tuple a h
def Lj(c:IsSub k s.heap it l i)(u:JP k s.heap l its)(v:its[i]? =some x)
  (hQ: ∀h',IsSub k h' it l (i+1)->Heap.SameBut it s.heap h'->Q x {s with heap:=h'}):wpAny ↑3 A (Builtin.SmallTypes.nextOf (.ref it)) Q E s:=by
 cases k with
 |true=>exact wpAny_nextOf_list_item c u v hQ
 |false=>
  have a:=c;refine(id a).c λo j y b=>?_;obtain⟨C,m,_,B,q⟩:=(u:s.heap.IsTuple l its)
  refine wB (ď a.typeIs ľ (õ ľ a.typeIs F.entry_tuple_iterator_next ?_ (F.args_tuple_iterator_next_1 _)));show wpAny _ _ (field _ 0 >>= _) _ _ s;refine wB (ē j b rfl ?_);refine wB (ē j b rfl ?_);refine wB (wpAny_seqItems m q ?_);simp only[Ē,v];refine wB (ħ j b (by simp) (wP (Z0 x rfl (wP (hQ _ ?_ (ć ..))))));exact ZB _ (ö _ j (Ļ (Ĥ b _))) ((Obj.cls_mapFields ..).trans y) (by rw[Ĥ b];simp[rawInt])
def Sl(j:(A.handled=none))(b:IsSub k s.heap it l i)(v:JP k s.heap l its)(y:its[i]? =none)
  (hE: ∀h' e,Heap.ExtBut it s.heap h'->(∃o,h'.get? e=some o/\o.cls=.type "StopIteration")->E (.ref e) {s with heap:=h'}):wpAny ↑3 A (Builtin.SmallTypes.nextOf (.ref it)) Q E s:=by
 cases k with
 |true=>exact wpAny_nextOf_list_end j b v y hE
 |false=>
  have a:=b;refine(id a).c λo q D u=>?_;obtain⟨C,c,_,B,m⟩:=(v:s.heap.IsTuple l its)
  refine wB (ď a.typeIs ľ (õ ľ a.typeIs F.entry_tuple_iterator_next ?_ (F.args_tuple_iterator_next_1 _)));show wpAny _ _ (field _ 0 >>= _) _ _ s;refine wB (ē q u (x:=.ref l) rfl ?_);refine wB (ē q u rfl ?_);refine wB (wpAny_seqItems c m ?_);simp only[Ē,y];refine wB (ĩ (wB (ħ q u (by simp) ?_)));refine wB ?_;refine wB (Ą ?_ (by size_fits));refine wB (wpAny_of_eq (by first |rfl|(simp only[firstArgMember];rfl)) ?_);refine Ą ?_ (by size_fits);simp only[raiseNew];refine wB (wpAny_handled ?_)
  first |rw[show A.in1.handled=none from j]|rw[j]
  refine wB (wP (wpAny_throw ?_));exact hE _ _ (((ć ..).extBut.push _).push _) (Z0 _ (ã _ rfl) rfl)
end
def Po(k:Bool)(K:O0)(H:Hp)(a:Addr)(xs:List V):Prop:=if k=true then SqL K H a xs else SqT K H a xs
section
def _root_.L2.Inv.seqK(I:↑1)(h:Po k X.K H a xs): ∃j:List Ś,Vals xs j/\JP k s.heap a j.toArray/\↑12<=sizeLine:=by
 cases k with
 |true=>refine(I.list h).c λj r p z=>?_;exact ZB j r p.isList z
 |false=>refine(I.tuple h).c λj r p z=>?_;exact ZB j r p z
def _root_.L2.Inv.seqK_inj(I:↑1)(h:Po k X.K H a xs)(h':Po k X.K H a ys):xs=ys:=by
 cases k with
 |true=>exact I.list_inj h h'
 |false=>exact I.tuple_inj h h'
end
structure Sr where
 k:Bool
 ds:List MV
 gs:List (Nat×List MV)
noncomputable def srcOf(S:Sto):Er->Option Sr
 |.val (.tup ds)=>some ⟨false,ds,[]⟩
 |.new ds=>some ⟨true,ds,[]⟩
 |.val (.scr ds)=>some ⟨true,ds,[]⟩
 |.val (.loc l)=>match S[l]? with
  |some (.lst ds)=>some ⟨true,ds,[(l,ds)]⟩
  |_=>none
 |_=>none
structure SrcD(X:Cx)(q:Sr)(l:Addr)(P:List Addr->Sto->Hp->Prop):Prop where
 get: ∀α S H,P α S H-> ∃vs,Po q.k X.K H l vs/\DenL X.K α H q.ds vs
 stays: ∀α1 S1 H1 α2 S2 H2,P α1 S1 H1->Ext α1 H1 α2 H2->Wd X.g α2 S2 H2->stay q.gs S2->P α2 S2 H2
 st: ∀α S H,P α S H->stay q.gs S
def Lk(L:↑19)(e:srcOf S r=some q)(d:(DenX X.K α H r x)): ∃l P,x=.ref l/\P α S H/\SrcD X q l P:=by
 unfold srcOf at e;split at e
 .rename_i u;cases e;refine(nF d).b λa c T s l=>?_;subst T;exact⟨a,λα S H=> ∃c,_,rfl,⟨c,s,l⟩,λα S H h=>h,λo B C m A y ⟨c,k,j⟩ x w _=>(Z0 c (x.sqT k) (j.ext x)),λ_ _ _ _=>jB⟩
 .rename_i u;cases e;refine d.k λb c U h n l=>?_;subst U
  exact⟨b,λα S H=> ∃c,H b=some (.lst c)/\b∉α/\DenL X.K α H u c,rfl,(ZB c h n l),λα S H ⟨c,k,_,j⟩=>(Z0 c (SqL.of k:SqL X.K H b c) j),
   λo B C m A y ⟨c,k,j,M⟩ x w _=>(ZB c (x.keep b _ k j) (x.out k j) (M.ext x)),λ_ _ _ _=>jB⟩
 .rename_i u;cases e;refine(PQ d).b λa c V s l=>?_;subst V;exact⟨a,λα S H=> ∃c,SqF X.K H a c/\DenL X.K α H u c,rfl,(Z0 c s l),λα S H ⟨c,k,j⟩=>(Z0 c k.l j),λo B C m A y ⟨c,k,j⟩ x w _=>(Z0 c (x.sqF k) (j.ext x)),λ_ _ _ _=>jB⟩
 .rename_i n;split at e
  .rename_i u E;cases e;refine(eW d).a λa W h=>?_;subst W;refine(L.obj n a _ h E).a λc k j=>?_;refine⟨a,λα S H=> ∃c,H a=some (.lst c)/\DenL X.K α H u c/\α[n]? =some a/\S[n]? =some _,rfl,⟨c,k,j,h,E⟩,λα S H ⟨c,k,j,_⟩=>(Z0 c (SqL.of k:SqL X.K H a c) j),?_,?_⟩
   .intro o B C m A y ⟨c,O,Q,D,F⟩ x w hs;have v:=hs (n,u) (by simp);refine(w.obj n a _ (x.at D) v).a λI N G=>?_;exact⟨I,N,G,x.at D,v⟩
   .intro α S H ⟨c,_,_,_,F⟩ p J;have:=by simpa using J
    subst this;exact F
  .cases e
 .cases e
noncomputable def pairs(xs a:Q0):List MV:=List.zipWith (λx y=>.tup [x,y]) xs a
structure EnSt(k:Bool)(e it l:Addr)(i:Nat)(h:Heap):Prop where
 e: ∃old,IsEnum h e it i old
 s:IsSub k h it l i
section
variable{prog:ś}{w:World}{A:Around}{i:Nat}
def Sn{Q:VP}(L:IsEnum s.heap e it i old)(J:IsSub k s.heap it l i)(hl:JP k s.heap l its)(hx:its[i]? =some x)(a:e≠it)
  (hQ: ∀h',IsEnumOut h' e it ( i +1) x ↑0->IsSub k h' it l (i+1)->h'.get? ↑0=some {cls:=.type "tuple",data:=.seq #[.int i s.toks,x]}->
   (∀b o,b≠e->b≠it->s.heap.get? b=some o->h'.get? b=some o)->Q (.ref ↑0) {s with heap:=h',toks:=s.toks+1}):
  wpAny ↑3 A (Builtin.«enumerate.__next__» ⟨[.ref e],[]⟩) (λU s'=> ∃v,U=.done (.ret v)/\Q v s') E s:=by
 obtain⟨B,g,d,tk,os⟩:=s;show wpAny _ _ (field _ 2 >>= _) _ _ _;refine wB (ē L rfl rfl (wB (Lj J hl hx λha P c=>?_)));have S:=(c.2 e a).trans L;refine wB (ē S rfl rfl ?_);refine wB (ē S rfl rfl ?_);show wpAny _ _ _ _ _ ⟨ha,g,d,tk,os⟩;refine wB (wpAny_mkInt ?_);refine wB (œ S (by simp) λhb O u=>?_)
 replace O:IsEnum hb e it _ old:=O
 refine wB (œ O (by simp) λm K j=>?_)
 replace K:IsEnum m e it _ old:=K
 refine wB (wpAny_newTuple ?_);have C:m.objs.size=B.objs.size:=by rw[j.1,u.1,c.1]
 have F:IsEnum (m.push {cls:=.type "tuple",data:=.seq #[.int i tk,x]}) e it _ old:=hP0 _ K;have Z:(m.push {cls:=.type "tuple",data:=.seq #[.int i tk,x]}).get? B.objs.size=some {cls:=.type "tuple",data:=.seq #[.int i tk,x]}:=by rw[<-C];exact ã _ rfl
 have kd: ∀b o,b≠e->b≠it->B.get? b=some o->(m.push {cls:=.type "tuple",data:=.seq #[.int i tk,x]}).get? b=some o:=λb o D N q=>
  hP0 _ (j.extBut b o D (u.extBut b o D (c.extBut b o N q)))
 have sd:IsSub k (m.push {cls:=.type "tuple",data:=.seq #[.int i tk,x]}) it l _:=P.move λo q=>hP0 _ (j.extBut _ o (Ne.symm a) (u.extBut _ o (Ne.symm a) q));generalize m.push {cls:=.type "tuple",data:=.seq #[.int i tk,x]}=hd at F Z kd sd ⊢;rw[C];refine wB ?_;refine wB (ē F rfl rfl (wP ?_));refine wB (ĩ (wB (ē F rfl rfl (wB (œ F (by simp) λhf H X=>?_)))))
 replace H:IsEnum hf e it _ x:=H
 refine wB ?_;refine wB (œ H (by simp) λY I T=>?_)
 replace I:IsEnumOut Y e it _ x B.objs.size:=I
 refine œ I (by simp) λy G M=>?_
 replace G:IsEnumOut y e it _ x B.objs.size:=G
 have W:=λb o n q=>M.extBut b o n (T.extBut b o n (X.extBut b o n q));exact wB (wpAny_letGo (wP ⟨_,rfl,hQ y G (sd.move λo q=>W _ o (Ne.symm a) q) (W _ _ (Ĕ (â L)) Z) λb o D N q=>W b o D (kd b o D N q)⟩))
end
def NT(K:O0)(F:↑16):Sp:=λb H Q _=> ∃a,DenL K [] H a b/\a.length=1/\ ∀g:Gm,g.K=K->Post g W0 [] H (F a []) Q
def Ll: ∀vs H Q E,NT g.K F vs H Q E->JM g 1 F vs H Q E:=λvs H Q E ⟨c,l,b,q⟩=>(Zq ([]) ([]) c ⟨rfl,by simp,λl a o h=>by simp at h⟩ l b (q g rfl))
def F6{K:O0}(b:Qn H)(h:SqL K H a xs):SqF K H a xs:=by
 rcases h with(h|⟨o,h⟩)|h
 .rcases b a with z|⟨o,ys,z⟩|⟨ps,z⟩<;>(rw[z]at h;cases h)
 .exact .inl ⟨o,h⟩
 .exact .inr h
theorem aV(b)(S)(k:β->Sto->R γ):(R.ok b S).bind k=k b S:=by exact Eq.trans (R.bind_ok b S k) rfl
theorem So(d)(S):Ra (some (some d)) S=.ok (.val d) S:=rfl
theorem JR:UD S (S++T):=⟨by rw[lA];lia,λl a=>.inl (è a)⟩
def xC(n)(i):lo n (.int i):=by unfold lo;trivial
def mB(n)(i):lo n (.str i):=by unfold lo;trivial
def JS(n)(i):lo n (.bl i):=by unfold lo;trivial
def Ln(n):lo n .non:=by unfold lo;trivial
def yD(h:CY n ds):lo n (.tup ds):=by unfold lo;exact h
theorem zU: ∀{ds},(∀d∈ds,lo n d)->CY n ds
 |[],_=>by unfold CY;trivial
 |d::ds,h=>by unfold CY;exact⟨h d mF0,zU λe j=>h e (mO _ j)⟩
def UH(h:lo ↑2 d)(a: ∀l,d≠.loc l):gI S (.val d) (S++T)=.ok (.val d) S:=by
 unfold gI;rw[iP JR];have e:(S++T).take ↑2=S:=by simp
 cases d with
 |loc l=>exact absurd rfl (a l)
 |_=>dsimp only;exact qq (iP h) (qq e rfl)
def zX(a:↑9=n)(c:F (zK rs S).1 (zK rs S).2=.ok (.val d) (S++T))(h:lo ↑2 d)(b: ∀l,d≠.loc l):zE n F rs S=.ok (.val d) S:=by unfold zE;rw[iP a,c];exact UH h b
def fC(a:↑9=n)(b:F (zK rs S).1 (zK rs S).2=.ok (.new ds) (S++T))(h:CY ↑2 ds):zE n F rs S=.ok (.new ds) S:=by unfold zE;rw[iP a,b];exact (show gI S (.new ds) (S++T)=.ok (.new ds) S by
  unfold gI;rw[iP JR];have e:(S++T).take ↑2=S:=by simp
  dsimp only;rw[iP h,e])
def UI(a:↑9=n)(c:F (zK rs S).1 (zK rs S).2=.ok (.val (.loc l)) (S++T))(j:↑2<=l)(b:(S++T)[l]? =some (.lst ds))(h:CY ↑2 ds):zE n F rs S=.ok (.new ds) S:=by unfold zE;rw[iP a,c];exact (show gI S (.val (.loc l)) (S++T)=.ok (.new ds) S by
  unfold gI;rw[iP JR];have e:(S++T).take ↑2=S:=by simp
  dsimp only;rw[iN0 #[0],b];dsimp only;rw[iP h,e])
def eS(a:↑9=n)(c:F (zK rs S).1 (zK rs S).2=.ok (.val d) S)(h:lo ↑2 d)(b: ∀l,d≠.loc l):zE n F rs S=.ok (.val d) S:=zX a (by rw[aN];exact c) h b
theorem UJ{L:Q0}(I:Nat->Rho->Sto->Prop)
  (st:(∀i d,L[i]? =some d-> ∀j S,I i j S-> ∃ρ' S',((gf d j S).bind λk m=>body k m)=.ok (.next ρ') S'/\stay gs S'/\I (i+1) ρ' S')):
  ∀ n i {j}{S},n+i=L.length->I i j S-> ∃ρ' S',dU gf body gs (L.drop i) j S=.ok (.next ρ') S'/\I L.length ρ' S'
 |0,i,j,S,hn,h=>by
  have e:i=L.length:=by lia
  subst e;rw[drop_length];exact Zy j S rfl h
 |n+1,i,j,S,hn,h=>by
  have hi:i<L.length:=by lia
  refine(st i L[i] (gE hi) j S h).b λs b e hs u=>?_;refine(UJ I st n _ #[0] u).d λa v o q=>?_;refine Zy a v ?_ q;rw[List.drop_eq_getElem_cons hi];unfold dU
  cases z:gf L[i] j S with
  |ok k m=>
   rw[z]at e;have e:body k m=.ok _ b:=e;show(body k m).bind _=_;rw[e,aV];dsimp only;rw[iP hs];exact o
  |exc c fs m=>rw[z]at e;cases e
  |no=>rw[z]at e;cases e
theorem fD(I:Nat->Rho->Sto->Prop)
  (st:(∀i d,L[i]? =some d-> ∀j S,I i j S-> ∃ρ' S',((gf d j S).bind λk m=>body k m)=.ok (.next ρ') S'/\stay gs S'/\I (i+1) ρ' S'))   (h:I 0 j S):
  ∃ρ' S',dU gf body gs L j S=.ok (.next ρ') S'/\I L.length ρ' S':=UJ I st L.length 0 #[0] h
section
theorem zBG(b)(S):gB (.val (.bl b)) S=.ok b S:=rfl
theorem as_int(i)(S):An (.val (.int i)) S=.ok (some i) S:=rfl
theorem F7(b)(S):lX (.val (.bl b)) S=.ok b S:=rfl
theorem add_int(i j)(S):yF (.val (.int i)) (.val (.int j)) S=.ok (.val (.int (i+j))) S:=rfl
theorem sub_int(i j)(S):Fk (.val (.int i)) (.val (.int j)) S=.ok (.val (.int (i - j))) S:=rfl
def add_str(h:x.length+y.length<=sizeLine):yF (.val (.str x)) (.val (.str y)) S=.ok (.val (.str (x++y))) S:=iP h
def Az(h:x.length+y.length<=sizeLine):yF (.val (.tup x)) (.val (.tup y)) S=.ok (.val (.tup (x++y))) S:=iP h
def FE(a:Ik S p=some x)(b:Ik S q=some y)(h:x.length+y.length<=sizeLine):yF p q S=.ok (.new (x++y)) S:=by
 have e:As p q S=.ok (.new (x++y)) S:=by unfold As;rw[a,b];exact iP h
 unfold yF;split
 .cases a
 .cases a
 .cases a
 .exact e
theorem F8(i j)(S):zDB g (.val (.int i)) (.val (.int j)) S=.ok (.val (.bl (g i j))) S:=rfl
def Sq(i j):eqV (.int i) (.int j)=decide (i=j):=by
 show(i==j)=_;by_cases h:i=j
 .subst h;simp
 .rw[dF0 h];simpa using h
def Ss(x y):eqV (.str (gO x)) (.str (gO y))=decide (x=y):=by
 show(gO x==gO y)=_;by_cases h:x=y
 .subst h;simp
 .rw[dF0 h];have:=λz=>h (CU z);simpa using this
theorem IC(n)(i j):eqv S (n+1) (.int i) (.int j)=some (decide (i=j)):=by rw[<-Sq];rfl
theorem Ba(n)(x y):eqv S (n+1) (.str x) (.str y)=some (decide (x=y)):=by rw[<-Ss];rfl
theorem F9(n)(x)(y):eqv S (n+1) (.int x) (.str y)=some false:=rfl
theorem G1(n)(x)(y):eqv S (n+1) (.str x) (.int y)=some false:=rfl
theorem Su(d f):iQ (.val d) (.val f) S=match eqv S (zL+1) d f with |some k=>.ok (.val (.bl k)) S|none=>.no:=rfl
theorem Sv(d f):MH (.val d) (.val f) S=match eqv S (zL+1) d f with |some k=>.ok (.val (.bl !k)) S|none=>.no:=rfl
def XS(h:eqv S (zL+1) d f=some k):iQ (.val d) (.val f) S=.ok (.val (.bl k)) S:=by rw[Su,h]
def QM(h:eqv S (zL+1) d f=some k):MH (.val d) (.val f) S=.ok (.val (.bl !k)) S:=by rw[Sv,h]
def eq_int(i j)(S):iQ (.val (.int i)) (.val (.int j)) S=.ok (.val (.bl (decide (i=j)))) S:=XS (IC _ i j)
def ne_int(i j)(S):MH (.val (.int i)) (.val (.int j)) S=.ok (.val (.bl (!decide (i=j)))) S:=QM (IC _ i j)
def zBH(x y)(S):MH (.val (.bl x)) (.val (.bl y)) S=.ok (.val (.bl (!(x==y)))) S:=QM ((rfl))
theorem lt_int(i j)(S):Kz (.val (.int i)) (.val (.int j)) S=.ok (.val (.bl (decide (i<j)))) S:=rfl
theorem lt_str(i j)(S):Kz (.val (.str i)) (.val (.str j)) S=.ok (.val (.bl (decide (i<j)))) S:=rfl
theorem rD(h:0<b)(j:b<1073741824)(a)(S):tU (.val (.int a)) (.val (.int b)) S=.ok (.val (.int (a / b))) S:=by
 refine iP ⟨h,?_⟩;have c:b.natAbs<2 ^ 30:=by omega
 have:=(Nat.log2_lt (by omega:b.natAbs≠0)).mpr c
 lia
def mod_lit(h:0<b)(a)(S):eY (.val (.int a)) (.val (.int b)) S=.ok (.val (.int (a % b))) S:=iP h
def Bb(h: -(2 ^ 64)<b/\b<2 ^ 64)(a)(S):lZ (.val (.int a)) (.val (.int b)) S=.ok (.val (.int (a * b))) S:=iP (Or.inr (Or.inl h))
def tV(h: -(2 ^ 64)<a/\a<2 ^ 64)(b)(S):lZ (.val (.int a)) (.val (.int b)) S=.ok (.val (.int (a * b))) S:=iP (Or.inl h)
def Bc(h:Fm a b)(S):QF (.val (.int a)) (.val (.int b)) S=.ok (.val (.int (a ^ b.toNat))) S:=iP h
theorem Sw(ρ)(i)(d)(S):JI ρ i (.val d) S=.ok (.next (ρ.set i (some d))) S:=rfl
theorem Sx(ρ)(i)(ds)(S):JI ρ i (.new ds) S=.ok (.next (ρ.set i (some (.loc ↑2)))) (S++[.lst ds]):=rfl
theorem Sy(S):zK [] S=([],S):=rfl
theorem Sz(d)(rs)(S):zK (.val d::rs) S=(d::(zK rs S).1,(zK rs S).2):=rfl
theorem dW(h:F ρ S=.ok (.next ρ') S'):zF F G ρ S=G ρ' S':=by unfold zF;rw[h];rfl
theorem xA(h:F ρ S=.ok (.ret r) S'):zF F G ρ S=.ok (.ret r) S':=by unfold zF;rw[h];rfl
def yT(S):stay [] S:=jB
def tW(a:gf d ρ S=.ok ρ0 S0)(h:b ρ0 S0=.ok (.next ρ') S')(hs:stay gs S'):dU gf b gs (d::ds) ρ S=dU gf b gs ds ρ' S':=by
 conv=>lhs;unfold dU
 rw[a,aV,h,aV];dsimp only;rw[iP hs]
def Bd(a:gf d ρ S=.ok ρ0 S0)(h:b ρ0 S0=.ok (.ret r) S'):dU gf b gs (d::ds) ρ S=.ok (.ret r) S':=by
 conv=>lhs;unfold dU
 rw[a,aV,h,aV]
def XU(a:t ρ S=.ok true S1)(c:b ρ S1=.ok (.next ρ') S2):eX t b (n+1) ρ S=eX t b n ρ' S2:=by
 conv=>lhs;unfold eX
 rw[a,aV,iP rfl,c,aV]
def Ft(a:t ρ S=.ok false S1):eX t b (n+1) ρ S=.ok (.next ρ) S1:=by
 conv=>lhs;unfold eX
 rw[a,aV,iN0 xF0]
theorem cO(b:0<=i)(a:i<↑12): ∃c,qW xs i=some c:=by refine⟨xs[i.toNat]'#[0],?_⟩;unfold qW WZ;rw[iP b,iP a];exact gE _
theorem Ta(b: - ↑12 <=i)(a:i<↑12): ∃c,qW xs i=some c:=by
 by_cases h:0<=i
 .exact cO h a
 .refine⟨xs[(i+↑12).toNat]'#[0],?_⟩;unfold qW WZ;rw[iN0 h,iP b];exact gE _
def cP{P:α->Prop}(h: ∀e∈xs,P e)(z:qW xs i=some e):P e:=by
 unfold qW at z
 cases q:WZ ↑12 i with
 |none=>rw[q]at z;cases z
 |some j=>rw[q]at z;exact h e (ë z)
def ix_str(h:x.length<=sizeLine)(a:qW x i=some c):yE (.val (.str x)) (.val (.int i)) S=.ok (.val (.str [c])) S:=by show(if x.length<=sizeLine then match qW x i with |some c=>R.ok _ S|none=>.no else .no)=_;rw[iP h,a]
def ix_tup(a:qW ds i=some d):yE (.val (.tup ds)) (.val (.int i)) S=.ok (.val d) S:=by show(match qW ds i with |some d=>R.ok _ S|none=>.no)=_;rw[a]
def BU(a:qW ds i=some d):yE (.new ds) (.val (.int i)) S=.ok (.val d) S:=by show(match qW ds i with |some d=>R.ok _ S|none=>.no)=_;rw[a]
def mE(a:S[l]? =some (.lst ds))(b:qW ds i=some d):yE (.val (.loc l)) (.val (.int i)) S=.ok (.val d) S:=by
 have e:wN S (.val (.loc l))=some ds:=by unfold wN;dsimp only;rw[a]
 show(match wN S _ with |some ds=>getL ds _ S|none=>.no)=_;rw[e];show(match qW ds i with |some d=>R.ok _ S|none=>.no)=_;rw[b]
def rE(a:S[l]? =some (.lst ds)):kE [.val (.loc l)] S=.ok (.val (.int ↑13)) S:=by
 have b:itemsOf S (.val (.loc l))=some ds:=by unfold itemsOf;exact(by unfold wN;dsimp only;rw[a])
 show(match itemsOf S _ with |some ds=>R.ok _ S|none=>.no)=_;rw[b]
def fE(a:S[l]? =some (.lst ds)):wN S (.val (.loc l))=some ds:=by unfold wN;dsimp only;rw[a]
def QN(a:S[l]? =some (.lst ds)):Ik S (.val (.loc l))=some ds:=by unfold Ik;dsimp only;rw[a]
def wR(a:S[l]? =some (.lst ds)):FA (.val (.loc l)) S=.ok ⟨ds,[(l,ds)]⟩ S:=by unfold FA;dsimp only;rw[a]
def xS(a:S[l]? =some (.lst ds)):stay [(l,ds)] S:=λp b=>by
 have:=by simpa using b
 subst this;exact a
def cH(h: -(2 ^ 62)<=j/\j<2 ^ 62):gH [.val (.int j)] S=.ok ⟨(List.range j.toNat).map λk=>.int (k:Nat),[]⟩ S:=iP h
def cut_str(h:x.length<=sizeLine)(lo hi):iI (.val (.str x)) lo hi S=.ok (.val (.str (jA x lo hi))) S:=iP h
def UK{lo:M0}(h:a∈jA x lo hi):a∈x:=mem_of_mem_drop (ĳ h)
def JT(f:α->β)(x)(lo hi):jA (x.map f) lo hi=(jA x lo hi).map f:=by unfold jA;rw[lM0,map_take,map_drop]
def fits(h:n<=1000000):n<=sizeLine:=by rw[ý];exact ì h ↑4
def nG(h:↑9<=1000000):yW rs S=.ok (.new (zK rs S).1) (zK rs S).2:=iP (fits h)
def mG(h:↑9<=1000000):wD rs S=.ok (.val (.tup (zK rs S).1)) (zK rs S).2:=iP (fits h)
def Lr(S):yW [] S=.ok (.new []) S:=nG (by simp)
def G3(a)(S):yW [.val a] S=.ok (.new [a]) S:=nG (by simp)
def G5(a b)(S):yW [.val a,.val b] S=.ok (.new [a,b]) S:=nG (by simp)
def zBI(a b c)(S):yW [.val a,.val b,.val c] S=.ok (.new [a,b,c]) S:=nG (by simp)
def lst6(a b c d e f)(S):yW [.val a,.val b,.val c,.val d,.val e,.val f] S=.ok (.new [a,b,c,d,e,f]) S:=nG (by simp)
def tup2(a b)(S):wD [.val a,.val b] S=.ok (.val (.tup [a,b])) S:=mG (by simp)
def tup3(a b c)(S):wD [.val a,.val b,.val c] S=.ok (.val (.tup [a,b,c])) S:=mG (by simp)
theorem G6(i)(S):FD [.val (.int i),.val (.typ "str")] S=.ok (.val (.bl false)) S:=rfl
theorem G7(i)(S):FD [.val (.str i),.val (.typ "str")] S=.ok (.val (.bl true)) S:=rfl
theorem G8(i)(S):FD [.val (.int i),.val (.typ "tuple")] S=.ok (.val (.bl false)) S:=rfl
theorem G9(i)(S):FD [.val (.str i),.val (.typ "tuple")] S=.ok (.val (.bl false)) S:=rfl
theorem H9(i)(S):FD [.val (.tup i),.val (.typ "tuple")] S=.ok (.val (.bl true)) S:=rfl
theorem J2(i)(S):FD [.val (.bl i),.val (.typ "bool")] S=.ok (.val (.bl true)) S:=rfl
def Nm(x:Db):Prop:=1<=x.length/\x.length<=8/\ ∀c∈x,97<=c/\c<=122
def Vl:MV->Prop
 |.int i=> -(10 ^ 30)<i/\i<10 ^ 30
 |.str x=>Nm x
 |_=>False
def Vl.cases(h:Vl d):(∃i,d=.int i/\ -(10 ^ 30)<i/\i<10 ^ 30)\/ ∃x,d=.str x/\Nm x:=by
 cases d with
 |int i=>exact .inl ⟨i,rfl,h⟩
 |str x=>exact .inr ⟨x,rfl,h⟩
 |_=>exact h.elim
def Vl.lo(h:Vl d)(n):lo n d:=by
 rcases h.cases with⟨i,rfl,_⟩|⟨x,rfl,_⟩
 .exact xC n i
 .exact mB n x
end
def Ite(K:O0)(k:Bool)(l:Addr):It:=
 ⟨λi H=> ∃xs x,Po k K H l xs/\xs[i]? =some x,
   λi H v H'=> ∃p x,H p=none/\v=.ref p/\H'=yV H p (.tup [.int (i:Nat),x])/\(∀xs,Po k K H l xs->xs[i]? =some x),
   λi H=> ∃xs,Po k K H l xs/\↑12<=i⟩
section
variable{s:ř}
def Fv(m:JP k s.heap l its)
  (h: ∀h',EnSt k (↑0+1) ↑0 l 0 h'->(∀c o,s.heap.get? c=some o->h'.get? c=some o)->Q (.ref (↑0+1)) {s with heap:=h'}):
  wpAny ↑3 A (call (.type "enumerate") [.ref l]) Q E s:=by
 refine callType_new F.called_enumerate ↑4 (F.typeCall_enumerate_1 _) (F.newCall_enumerate_1 _) (λa=>F.args_object_init_2 a _) F.entry_enumerate_new ((show Meets (Builtin.«enumerate.__new__» ⟨[.type "enumerate",.ref l],[]⟩) (λ_ R s=>JP k s.heap l its/\
   R (.ok (.ret (.ref (↑0+1)))) {s with heap:=(s.heap.push (QL k l)).push {cls:=.type "enumerate",data:=.fields #[.none,.bool false,.ref ↑0,rawInt 0,.none,.none]}}) from .of_wp λprog w A R s h=>by
    obtain⟨y,g,d,tk,os⟩:=s;obtain⟨m,h⟩:=h;have v:=sub_enumerate;have j:=m;have q: ∀(h:Heap)(o:Obj),(h.push o).objs.size=h.objs.size+1:=λh o=>Ĝ ..
    wp_walk
    refine wpAny_stack_any λst=>wP ?_;split
    .rename_i c _ _ _ _ _;cases (c==Value.type "enumerate")
     .wp_walk using JQ j
      exact⟨_,rfl,by simp only[q];exact h⟩
     .wp_walk using JQ j
      exact⟨_,rfl,by simp only[q];exact h⟩
    .wp_walk using JQ j
     exact⟨_,rfl,by simp only[q];exact h⟩)) ⟨m,?_⟩;have u:=by have:=ã (s.heap.push (QL k l)) (o:={cls:=.type "enumerate",data:=.fields #[.none,.bool false,.ref ↑0,rawInt 0,.none,.none]}) rfl;rw[(Ĝ ..)]at this;exact this
 refine⟨(Z0 _ u rfl),h _ ⟨⟨_,u⟩,IsSub.mk' (hP0 _ (ã _ rfl))⟩ λb o x=>hP0 _ (hP0 _ x)⟩
end
theorem Fw{K:O0}(hne:e≠it):
  Turn P w K (.Tuple elts kt pt) (Ite K k l) [e,it] e (λi h=>EnSt k e it l i h) where
 mem:=by simp
 obj:=λi h st b hb=>by
  obtain⟨⟨old,he⟩,hs⟩:=st;rcases (by simpa using hb)with rfl|rfl
  .exact(Z0 _ he (λv q=>by cases q))
  .exact hs.there
 keep:=λi h h' st kk=>by obtain⟨⟨old,he⟩,hs⟩:=st;exact⟨⟨old,kk e (by simp) _ he⟩,hs.move λo q=>kk it (by simp) o q⟩
 item:=by
  (intro X hP hw hK hc i pins s σ H E I hf st hg);subst hP hw hK;refine hg.d λxs x q1 hx=>?_;refine(I.seqK q1).c λits r1 p1 _=>?_;refine(r1.get hx).a λu hu ru=>?_;have⟨⟨old,he⟩,hs⟩:=st;have hT:s.TypeIs (.ref e) "enumerate":=⟨_,he,rfl⟩
  refine wB (wpAny_attempt (ď hT F.slot_enumerate_next (õ F.slot_enumerate_next hT F.entry_enumerate_next
   (Sn he hs p1 (by simpa using hu) hne λh' a1 a2 a3 a4=>wP (Z0 _ rfl ?_)) (F.args_enumerate_next_1 _))))
  refine wpAny_letOwnedTupleGo_enum a1 λh2 z2 sb2=>?_
  have I0:Inv X pins σ _ {s with heap:=s.heap.push {cls:=.type "tuple",data:=.seq #[.int i s.toks,u]},toks:=s.toks+1}:=
   I.laid (o:=.tup [.int _,x]) (λb o e=>hP0 _ e) (à _) ⟨by show 2<=sizeLine;decide,_,.cons ⟨_,rfl⟩ (.cons ru .nil),⟨_,ã _ rfl,rfl,_,rfl⟩⟩
  have lt: ∀b∈[e,it],b<s.heap.objs.size:=λb hb=>by
   rcases (by simpa using hb)with rfl|rfl
   .exact â he
   .refine hs.there.a λo eo _=>?_;exact â eo
  have fr: ∀b∈[e,it],yV H ↑0 (.tup [.int (i:Nat),x]) b=none:=λb hb=>by rw[zD (ä (lt b hb))];exact(hf b hb).1
  have mv: ∀b o,b∉[e,it]->(s.heap.push {cls:=.type "tuple",data:=.seq #[.int i s.toks,u]}).get? b=some o->h2.get? b=some o:=λb o hb eo=>by
   simp only[mC,nM,or_false,not_or]at hb;refine sb2.extBut _ _ hb.1 ?_;by_cases hbs:b=↑0
   .subst hbs;rw[ã _ rfl]at eo;cases eo;exact a3
   .rw[Heap.get?_push_ne _ _ _ hbs]at eo;exact a4 b o hb.1 hb.2 eo
  refine YZ (.ref ↑0) _ (I0.turnedL (t':=s.toks+1) mv λb hb=>let ⟨_,c2,c3,c4,c5,c6⟩:=hf b hb;⟨fr b hb,c2,c3,c4,c5,c6⟩) rfl (Zr _ x (I.hok.fresh (à _)) rfl rfl (λzs hz=>?_)) ⟨⟨u,?_⟩,?_⟩ fr
  .rw[I.seqK_inj hz q1];exact hx
  .simpa using z2
  .exact a2.move λo eo=>sb2.extBut _ _ (Ne.symm hne) eo
 done:=by
  (intro X hP hw hK hc i pins s σ H E I hf st hg);subst hP hw hK;obtain⟨xs,q1,hx⟩:=hg;refine(I.seqK q1).c λits r1 p1 _=>?_;have⟨⟨old,he⟩,hs⟩:=st;have hT:s.TypeIs (.ref e) "enumerate":=(Z0 _ he rfl)
  have e1:=r1.length;refine wB (wpAny_attempt (ď hT F.slot_enumerate_next (õ F.slot_enumerate_next hT F.entry_enumerate_next ?_ (F.args_enumerate_next_1 _))));show wpAny _ _ (field _ 2 >>= _) _ _ _;refine wB (ē he rfl rfl ?_);refine wB (Sl (I.ok.hd hc) hs p1 (by simp;lia) λh' x hk hx'=>?_);refine hx'.a λo ho hcl=>?_;refine wB (ģ (Z0 o ho hcl) isSubtype_stop (wP ⟨rfl,?_⟩));refine I.turnedL (λb o hb eo=>?_) hf;simp only[mC,nM,or_false,not_or]at hb;exact hk b o hb.2 eo
 self:=λ_ _ _ _ _ st h=>let ⟨⟨_,he⟩,_⟩:=st;wpAny_pyIter_enum he h
def zBJ(K:O0)(c:TA):TI:=λσ H R=>c σ H λb a=> ∃k l,b=[.ref l]/\(∃xs,Po k K a l xs)/\R (Ite K k l) a
section
variable{a:Expr}{p:Pos}
def Tc(y:Gl X "enumerate")(u:X.mg "enumerate"=none)(A:PA X [a] ta)(hs:starEach [a] X.env=[((false,eval a X.env))]:=by rfl):
  PI X (.Tuple elts kt pt) (.Call (.Name "enumerate" p) [a] [] pos) (zBJ X.K ta):=by
 intro pins s σ H R I h;refine Call_ (ER I y u (show bootBuiltins "enumerate"=some (.type "enumerate") by decide+kernel) (ķ (xV (A pos pins s σ H _ I h) λG w ⟨F,o,I1,j,E⟩=>?_) (by rw[hs];rfl) (by rfl)));refine E.b λk l L M q=>?_;subst L;obtain ⟨xs,m⟩:=M
 cases j with
 |cons r rr=>
  cases rr;subst r;refine(I1.seqK m).c λB J p1 _=>?_;refine Fv p1 λh' st v=>let ⟨⟨_,C⟩,_⟩:=id st;wpAny_pyIter_enum C ?_;refine Zp _ _ _ _ o ⟨rfl,I1.kept v,Fw (Ĕ (ę _)),st,(λb D=>?_),q⟩;have c:w.heap.objs.size<=b:=by rcases (by simpa using D)with h|h<;>refine qq h ?_<;>(first |exact à _|exact Nat.le_add_right _ _)
  exact I1.fpOk c (I1.hok.fresh c)
noncomputable def UL(xs:Q0):List MV:=xs.zipIdx.map λp=>.tup [.int (p.2:Nat),p.1]
def Ls(rs:List Er)(S:Sto):R Wk:=match rs with
 |[p]=>match srcOf S p with
  |some a=>.ok ⟨UL a.ds,a.gs⟩ S
  |none=>.no
 |_=>.no
theorem Td(hg:Gl X "enumerate")(hm:X.mg "enumerate"=none)(D:GY X W [a] af)(hs:starEach [a] X.env=[((false,eval a X.env))]:=by rfl):
  UC X W (.Tuple elts kt pt) (.Call (.Name "enumerate" p) [a] [] pos) (λB S=>(af B S).bind Ls):=by
 refine D.a λt D k=>?_;refine Z0 _ (Tc hg hm D hs) (λα B S σ H Rc wd sl q=>k α B S σ H _ wd sl (q.bind λvs rs Z y H1 e M K d1 b=>?_))
 replace b:=b.shift M
 unfold Ls at b;split at b
 .rename_i r1;split at b
  .rename_i C e1;refine(JL d1).a λu V P=>?_;subst V;refine(Lk K e1 P).b λU Q ac p1 c=>?_;subst ac;have E:(UL C.ds).length=C.ds.length:=by unfold UL;rw[lM0,length_zipIdx]
   refine ZC C.k U rfl ⟨_,(c.get _ _ _ p1).choose_spec.1⟩ (b.here K ⟨λα S H=>Q α S H,?_,p1,?_,?_⟩)
   .intro i s Y T j I;refine(c.get _ _ _ j).a λv m J=>?_;have hl:=J.length;refine⟨λhi=>?_,λhi=>?_⟩
    .have hi:=hi;refine⟨(Zy v _ m (gE #[0])),?_⟩;rintro x H' ⟨pp,G,F,rfl,rfl,O⟩;refine(J.get (O v m)).a λd N dd=>?_;have A:=I.newx (o:=.tup [.int (i:Nat),G]) F;have L:=I.new (o:=.tup [.int (i:Nat),G]) F;refine⟨A,L,c.stays _ _ _ _ _ _ j A L (c.st _ _ _ j),.tup [.int (i:Nat),d],?_,?_⟩
     .unfold UL;rw[î,List.getElem?_zipIdx,N];simp
     .exact rA (.of zO) (zV (yQ _) (zV (dd.ext A) yA))
    .have hi:=hi;exact Z0 v m (by lia)
   .intro y Z H1 s Y T j x w hs;exact c.stays _ _ _ _ _ _ j x w hs
   .exact c.st _ _ _ p1
  .exact b.elim
 .exact b.elim
end
instance:DecidableEq MV:=λ_ _=>Classical.propDecidable _
def look(a:Y0)(k:MV):Option MV:=(a.find? λp=>decide (p.1=k)).map (·.2)
def putK(a:Y0)(k d:MV):List (MV×MV):=if(look a k).isSome=true then a.map (λp=>if p.1=k then(p.1,d)else p)else a++[(k,d)]
noncomputable def JU:MV->Bool
 |.tup _=>true
 |_=>false
theorem UM:xR .non=some (.key none):=by unfold xR;rfl
theorem qB(i):xR (.int i)=some (.key (some (.inl i))):=by unfold xR;rfl
theorem qC(x):xR (.str x)=some (.key (some (.inr (gO x)))):=by unfold xR;rfl
def fF(ds):xR (.tup ds)=(kP ds).map .tup:=by
 conv=>lhs;unfold xR
theorem vQ:kP []=some []:=by unfold kP;rfl
def fG(d)(ds):kP (d::ds)=(xR d).bind λk=>(kP ds).map (k::·):=by
 conv=>lhs;unfold kP
mutual
theorem JV: ∀{d e:MV}{k:NK},xR d=some k->xR e=some k->d=e
 |.int i,e,k,hd,m=>by
  rw[qB]at hd;cases hd
  cases e with
  |int j=>rw[qB]at m;cases m;rfl
  |str x=>rw[qC]at m;cases m
  |tup ds=>rw[fF]at m;cases z:kP ds<;>rw[z]at m<;>cases m
  |_=>unfold xR at m;cases m
 |.str x,e,k,hd,m=>by
  rw[qC]at hd;cases hd
  cases e with
  |int j=>rw[qB]at m;cases m
  |str y=>
   rw[qC]at m;have m:=å m;injection m with m
   injection m with m
   injection m with m
   rw[CU m]
  |tup ds=>rw[fF]at m;cases z:kP ds<;>rw[z]at m<;>cases m
  |_=>unfold xR at m;cases m
 |.tup ds,e,k,hd,m=>by
  rw[fF]at hd
  cases z:kP ds with
  |none=>rw[z]at hd;cases hd
  |some ks=>
   rw[z]at hd;cases hd
   cases e with
   |int j=>rw[qB]at m;cases m
   |str y=>rw[qC]at m;cases m
   |tup es=>
    rw[fF]at m
    cases a:kP es with
    |none=>rw[a]at m;cases m
    |some ks'=>rw[a]at m;cases m;rw[NU z a]
   |_=>unfold xR at m;cases m
 |.non,e,k,hd,m=>by
  rw[UM]at hd;cases hd
  cases e with
  |non=>rfl
  |int j=>rw[qB]at m;cases m
  |str x=>rw[qC]at m;cases m
  |tup ds=>rw[fF]at m;cases z:kP ds<;>rw[z]at m<;>cases m
  |_=>unfold xR at m;cases m
 |.bl _,e,k,hd,m=>by unfold xR at hd;cases hd
 |.scr _,e,k,hd,m=>by unfold xR at hd;cases hd
 |.loc _,e,k,hd,m=>by unfold xR at hd;cases hd
 |.typ _,e,k,hd,m=>by unfold xR at hd;cases hd
 |.obj _ _ _,e,k,hd,m=>by unfold xR at hd;cases hd
theorem NU: ∀{ds es:Q0}{m:List NK},kP ds=some m->kP es=some m->ds=es
 |[],es,m,hd,he=>by
  rw[vQ]at hd;cases hd
  cases es with
  |nil=>rfl
  |cons e es=>
   rw[fG]at he;cases z:xR e<;>rw[z]at he
   .cases he
   .cases j:kP es<;>rw[j]at he<;>cases he
 |d::ds,es,m,hd,he=>by
  rw[fG]at hd
  cases z:xR d with
  |none=>rw[z]at hd;cases hd
  |some k=>
   rw[z]at hd
   cases j:kP ds with
   |none=>rw[j]at hd;cases hd
   |some ks2=>
    rw[j]at hd
    cases es with
    |nil=>rw[vQ]at he;cases he;cases hd
    |cons e es=>
     rw[fG]at he
     cases u:xR e with
     |none=>rw[u]at he;cases he
     |some k'=>
      rw[u]at he
      cases q:kP es with
      |none=>rw[q]at he;cases he
      |some ks4=>
       rw[q]at he;cases hd;cases he;rw[JV z u,NU j q]
end
section
variable{X:Cx}{pins:L0}{σ:St}{H:Hp}{s:ř}{α:B9}
mutual
theorem XX(I:↑1): ∀{d:MV}{k:NK}{x:V}{u:Ś},xR d=some k->Den X.K α H d x->RelV x u->MF (mk X.prog X.w) s.heap k u
 |.int i,k,x,u,hk,hd,r=>by rw[qB]at hk;cases hk;cases yI hd;obtain⟨t,rfl⟩:=r;exact xX.mpr (by show pQ (.inl i) (.int i t)=true;simp[pQ,Value.isInt])
 |.str y,k,x,u,hk,hd,r=>by rw[qC]at hk;cases hk;cases yX hd;obtain⟨t,rfl⟩:=r;exact xX.mpr (by show pQ (.inr (gO y)) (.str (gO y) t)=true;simp[pQ,Value.isStrOf])
 |.tup ds,k,x,u,hk,hd,r=>by
  rw[fF]at hk
  cases z:kP ds with
  |none=>rw[z]at hk;cases hk
  |some ks=>
   rw[z]at hk;cases hk;obtain⟨a,A,rfl,v,l⟩:=yN hd;cases r;obtain⟨c,j,pt,_⟩:=I.tuple v;obtain⟨o,q,m,n,b⟩:=pt;exact xL.mpr ⟨a,o,c.toArray,n,rfl,q,m,b,by simpa using Be I z l j⟩
 |.non,k,x,u,hk,hd,r=>by rw[UM]at hk;cases hk;cases gP hd;cases r;exact xX.mpr rfl
 |.bl _,k,x,u,hk,hd,r=>by unfold xR at hk;cases hk
 |.scr _,k,x,u,hk,hd,r=>by unfold xR at hk;cases hk
 |.loc _,k,x,u,hk,hd,r=>by unfold xR at hk;cases hk
 |.typ _,k,x,u,hk,hd,r=>by unfold xR at hk;cases hk
 |.obj _ _ _,k,x,u,hk,hd,r=>by unfold xR at hk;cases hk
theorem Be(I:↑1): ∀{ds:Q0}{m:List NK}{xs:List V}{j:A0},kP ds=some m->DenL X.K α H ds xs->Vals xs j->tQ (mk X.prog X.w) s.heap m j
 |[],m,xs,j,hk,hd,r=>by rw[vQ]at hk;cases hk;cases hd.isnil;cases r;exact wC.mpr rfl
 |d::ds,m,xs,j,hk,hd,r=>by
  rw[fG]at hk;obtain⟨v,vs,rfl,a,l⟩:=hd.uncons
  cases r with
  |cons r1 r2=>
   cases z:xR d with
   |none=>rw[z]at hk;cases hk
   |some k=>
    rw[z]at hk
    cases b:kP ds with
    |none=>rw[b]at hk;cases hk
    |some ks2=>
     rw[b]at hk;cases hk;exact yH.mpr ⟨_,_,rfl,XX I z a r1,Be I b l r2⟩
end
def DD(X:Cx)(H:Hp)(d:Addr)(xs:List (NK×Addr×Ś)):Prop:=H d=some (DN X.prog X.w d xs)\/(xs=[]/\H d=some (.dK []))
def DD.nf(h:DD X H d xs): ∀ob u,H d≠some (.frz ob u):=h.elim (λz=>Xk z) λz=>by first |exact Xk z.2|exact z.elim
def zBK{S:Sto}(ob:ObD X.g α H d (.dic kvs))(b:kvs.all (λp=>JU p.1)=true): ∃xs,DD X H d xs/\DenN X.K α H kvs xs:=by
 rcases ob with⟨ks,h,l⟩|⟨xs,h,l⟩
 .cases l with
  |nil=>exact Z0 ([]) (.inr ⟨rfl,h⟩) .nil
  |@cons k k' dd v fs gs hkd a l=>
   rw[List.all_cons,aE]at b
   cases k with
   |tup ds=>exact absurd hkd (by unfold KeyD;exact λz=>z)
   |_=>exact absurd b.1 xF0
 .exact(Z0 xs (.inl h) l)
theorem Bf(I:↑1){m}{xs}(q:DenN X.K α H m xs): ∀x∈xs,(pW X.prog X.w).is s.heap x.1 x.2.1:=by
 induction q with
 |nil=>exact nofun
 |cons k e a d r l i=>
  intro x j;rcases mC.mp j with rfl|j
  .exact⟨XX I k a rfl,e⟩
  .exact i x j
def IE(I:↑1)(h:DD X H d xs)(l:DenN X.K α H kvs xs):s.heap.DictOfH (pW X.prog X.w) d xs/\↑12<=sizeLine/\(d==sysModules)=false:=by
 rcases h with h|⟨rfl,h⟩
 .obtain⟨⟨C,hs,o,es,m,u,j,k,q,B⟩,_⟩:=(I.hok d _ h)
  exact⟨(Zv o es m ⟨u,j,k,q,Bf I l,B⟩),C,hs⟩
 .obtain⟨_,hs,D,y,o,es,m,u,j,k,_,v,_⟩:=(I.hok d _ h)
  cases y;have q:es.toList=[]:=by cases c:es.toList with |nil=>rfl|cons a b=>rw[c]at v;cases v
  exact⟨(Zv o es m ⟨u,j,k,(by rw[q];rfl),(λx A=>by simp at A),nodup_nil⟩),zero_le _,hs⟩
def vR(p)(kvs)(k):look (p::kvs) k=if p.1=k then some p.2 else look kvs k:=by
 unfold look;rw[find?_cons];by_cases h:p.1=k
 .rw[dT0 h,iP h];rfl
 .rw[dF0 h,iN0 h]
def XY(x)(xs)(k:NK):atKey (x::xs) k=if x.1=k then some x.2 else atKey xs k:=by
 unfold atKey;rw[find?_cons];by_cases h:x.1=k
 .rw[dT0 h,iP h];rfl
 .rw[dF0 h,iN0 h]
theorem Bg{j}{xs}{k}{nk}(q:DenN X.K α H j xs)(hk:xR k=some nk):(atKey xs nk).isSome=(look j k).isSome:=by
 induction q with
 |nil=>rfl
 |@cons k' nk' _ _ _ _ _ _ hk' e a d r l i=>
  rw[vR,XY];by_cases h:k'=k
  .have m:nk'=nk:=by rw[h,hk]at hk';exact(å hk').symm
   rw[iP m,iP h];rfl
  .have m:nk'≠nk:=λz=>h (JV hk' (by rw[hk,z]));rw[iN0 m,iN0 h];exact i
theorem QO{j}{xs}{k d}{nk}{v}{u}(q:DenN X.K α H j xs)(hk:xR k=some nk)(hd:Den X.K α H d v)(r:RelV v u):DenN X.K α H (j.map λp=>if p.1=k then(p.1,d)else p) (xs.map (putAt nk u)):=by
 induction q with
 |nil=>exact .nil
 |@cons k' nk' _ _ _ _ _ _ hk' e a dd rr l i=>
  rw[í,í];unfold putAt;by_cases h:k'=k
  .have m:nk'=nk:=by rw[h,hk]at hk';exact(å hk').symm
   rw[iP h,iP m];exact .cons hk' e a hd r i
  .have m:nk'≠nk:=λz=>h (JV hk' (by rw[hk,z]));rw[iN0 h,iN0 m];exact .cons hk' e a dd rr i
def DenN.append: ∀{m j}{xs k},DenN X.K α H m xs->DenN X.K α H j k->DenN X.K α H (m++j) (xs++k):=λb=>by
 induction b with
 |nil=>exact(λh=>h)
 |cons hk e a d r l ih=>exact(λh=>.cons hk e a d r (ih h))
def Te(l:DenN X.K α H kvs xs)(c:xR k=some nk)(e:AO nk<=4)(q:Den X.K α H k (.ref a))(j:Den X.K α H d v)(r:RelV v u):DenN X.K α H (putK kvs k d) (storedH xs nk a u):=by
 unfold putK;have b:=Bg l c;by_cases h:(look kvs k).isSome=true
 .rw[iP h];rw[h]at b;obtain⟨p,o⟩:=ü.mp b;rw[storedH_old o];exact QO l c j r
 .rw[iN0 h]
  have m:atKey xs nk=none:=by
   cases z:atKey xs nk with
   |none=>rfl
   |some p=>rw[z]at b;exact absurd b.symm h
  rw[storedH_new m];exact l.append (.cons c e q j r .nil)
end
section
variable{X:Cx}{a o i:Expr}
def Lu(I:↑1):sysModules<s.heap.objs.size:=lt_trans ↑4 ((I.mod.glob.keeps I.bk).lt)
theorem Wd.put(w:Wd gg α S H)(s:H p=none)(q:ObD gg (α++[p]) (yV H p ho) p m):Ext α H (α++[p]) (yV H p ho)/\Wd gg (α++[p]) (S++[m]) (yV H p ho):=by
 have x:=w.newx (o:=ho) s;refine⟨⟨⟨⟨[p],rfl⟩,x.tup,x.frz⟩,λb B=>?_,x.keep,x.has⟩,⟨?_,?_,λl c ob j k=>?_⟩⟩
 .rcases ç.mp B with h|h
  .exact .inl h
  .rw[mS.mp h];exact .inr s
 .rw[lA,lA,w.len];rfl
 .exact ĸ.mpr ⟨w.nd,by simp,λa y c A=>by rw[mS.mp A];rintro rfl;exact(w.fresh s) y⟩
 .by_cases v:l<α.length
  .rw[è v]at j;rw[è (by rw[<-w.len];exact v)]at k;exact((w.new (o:=ho) s).obj l c ob j k).move (Ex0.grow α [p] _) rfl
  .have u:l=α.length:=by
    have:=(gS.mp j).1;rw[lA,lS]at this
    lia
   subst u;rw[ð (à _),sub_self]at j;rw[ð (by rw[w.len];exact à _),w.len,sub_self]at k;cases j;cases k;exact q
noncomputable def Xw(S:Sto):R Er:=.ok (.val (.loc ↑2)) (S++[.dic []])
def Lv:zP X W (.Dict [] [] pos) (λ_ S=>Xw S):=by
 refine⟨λσ H Q=> ∀p,H p=none->Q (.ref p) (yV H p (.dK [])),λpins s σ H Q I h=>?_,λα j S σ H Q a sl q p c=>?_⟩
 .exact wpAny_Dict_empty (ZC (.ref ↑0) _ (I.laid (o:=.dK []) (λ_ _ q=>hP0 _ q) (à _)
   ⟨zero_le _,ğ.mpr (Ne.symm (ä (Lu I))),[],.nil,Heap.DictOf.new s.heap⟩) rfl (h _ (I.hok.fresh (à _))))
 .obtain⟨x,b⟩:=a.put (m:=.dic []) c (.inl ⟨[],zO,.nil⟩);exact q _ _ _ x b (DenE.val (vM (by rw[<-a.len,ð (à _),sub_self];rfl)))
def DF(S:Sto):Er->Option (Nat×List (MV×MV))
 |.val (.loc l)=>match S[l]? with
  |some (.dic kvs)=>if kvs.all (λp=>JU p.1)=true then some (l,kvs)else none
  |_=>none
 |_=>none
def keyOk(k:MV):Bool:=JU k&&(match xR k with |some nk=>decide (AO nk<=4)|none=>false)
def Lw(h:keyOk k=true): ∃nk,xR k=some nk/\AO nk<=4/\JU k=true:=by
 unfold keyOk at h;rw[aE]at h
 cases z:xR k with
 |none=>rw[z]at h;exact absurd h.2 xF0
 |some nk=>rw[z]at h;exact ZB nk rfl (ï h.2) h.1
def XZ(k:↑19)(e:DF S r=some (l,kvs))(d:(DenX X.K α H r x)):
  ∃c xs,x=.ref c/\α[l]? =some c/\S[l]? =some (.dic kvs)/\DD X H c xs/\DenN X.K α H kvs xs:=by
 unfold DF at e;split at e
 .rename_i n;refine(eW d).a λc o h=>?_;subst o;split at e
  .rename_i m a;split at e
   .rename_i b;obtain⟨rfl,rfl⟩:=Prod.mk.inj (å e);refine(zBK (S:=S) (k.obj _ c _ h a) b).a λxs j l=>?_;exact YZ c xs rfl h a j l
   .cases e
  .cases e
 .cases e
def Tf(h:JU k=true)(d:Den X.K α H k x): ∃a,x=.ref a:=by
 cases k with
 |tup ds=>refine(yN d).d λa _ b _=>?_;subst b;exact⟨a,rfl⟩
 |_=>exact absurd h xF0
def zBL(X:Cx):TSet:=λo i v H Q=> ∃(α:B9)(b:Y0)(xs:List (NK×Addr×Ś))(a d:Addr)(k:MV)(nk:NK),o=.ref d/\i=.ref a/\DD X H d xs/\DenN X.K α H b xs/\xR k=some nk/\AO nk<=4/\Den X.K α H k (.ref a)/\↑12<sizeLine/\
 ∀u,RelV v u->Q (yV H d (DN X.prog X.w d (storedH xs nk a u)))
def YA{k:NK}{a:Addr}:(storedH xs k a u).length<=↑12+1:=by
 cases h:atKey xs k with
 |none=>rw[storedH_new h,lA];exact à _
 |some p=>rw[storedH_old h,lM0];exact le_succ _
def DG(p q:Er)(d:MV)(a:Rho)(S:Sto):R Rho:=match q with
 |.val k=>match DF S p with
  |some (l,kvs)=>if keyOk k=true/\kvs.length<1000000 then .ok a (S.set l (.dic (putK kvs k d)))else .no
  |none=>.no
 |_=>.no
def DenN.length: ∀{j xs},DenN X.K α H j xs->↑12=j.length:=λa=>by
 induction a with
 |nil=>exact rfl
 |cons _ _ _ _ _ l ih=>exact by rw[lC0,lC0,ih]
def Tg(hu:(X.A.units+64<cLine))(m:zP X W o f)(hi:zP X W i g)
  (ha: ∀v,assign (.Subscript o i pos) X.env v=(do
   let G <-holding [v] (eval o X.env);let N <-holding [v,G] (eval i X.env)
   standAt pos
   holding [v,G,N] (setItem G N v)
   release [v,G,N] []):=by intro _;rfl):Kk X W (.Subscript o i pos) (λd y S=>(f y S).bind λp S1=>(g y S1).bind λq S2=>DG p q d y S2):=by
 refine m.a λto m fo=>?_;refine hi.a λti hi fi=>?_;refine(Z0 _ (Iw m hi ((show Zf X (zBL X) by
   intro pins s σ H o i v G N u Q I ro ri rv h;refine h.x λα D xs a d k K V=>V.s λac al B l L e ha hz q=>?_;subst ac;subst al;subst ro;subst ri;refine(IE I B l).f λhm O hs=>?_;refine wpAny_setItem_heap (knd:=pW X.prog X.w) (show X.A.units+1+4<cLine by lia) ⟨XX I L ha rfl,e⟩ hm (λh' aa P=>(Z0 _ ?_ (q u rv))) O;have mu:X8 (H d):=by rcases B with z|⟨_,z⟩<;>refine qq z ?_<;>exact trivial
   refine aa.i λob es ep a0=>a0.g λm E hd he _ hn=>?_;refine I.write mu (.inl rfl) (λb uo hb eo=>(P.2 b hb).trans eo) ⟨ob,m⟩ ?_;refine⟨⟨by have:=YA (xs:=xs) (k:=K) (a:=a) (u:=u);lia,hs,ob,es,ep,m,E,hd,he,hn⟩,⟨ob,m⟩,?_⟩;rintro h1 h2 ⟨z1,z2,o',ab,U,ae,r⟩ mv;exact⟨z1,z2,o',ab,U,mv o' ae,r⟩)) ha) (λα y S σ H d v Q wd sl de q=>fo α y S σ H _ wd sl (q.bind λu p S1 T H1 e1 F w1 d1 q1=>fi T y S1 σ H1 _ w1 (sl.ext F) ((q1.shift F).bind λu2 p2 S2 C H2 e2 J Y Z j=>?_))))
 replace j:=j.shift J
 unfold DG at j;split at j
 .rename_i k;split at j
  .rename_i l D e;split at j
   .rename_i L;refine(Lw L.1).c λK h1 h2 h3=>?_;refine(XZ Y e (DenX.ext J d1.1)).j λc xs a1=>a1.h λam E hS B M=>?_;subst am;obtain⟨a',rfl⟩:=Tf h3 Z.1;refine YE C D xs a' c k K ⟨rfl,rfl,B,M,h1,h2,Z.1,?_,(λu ru=>?_)⟩
    .rw[M.length];exact ê L.2 (fits (à _))
    .have xw:=Y.writex E B.nf (o:=DN X.prog X.w c (storedH xs K a' u));exact j σ C _ xw (Y.write E B.nf (.inr (Z0 _ zO ((Te M h1 h2 Z.1 ((de.ext F).ext J) ru).ex0 xw.toEx0)))) (((sl.ext F).ext J).ext xw)
   .exact j.elim
  .exact j.elim
 .exact j.elim
end
def FsD(g:Gm)(α:B9)(H:Hp)(d:Option Addr)(fs:List (Str×MV)):Prop:=fs=[]\/ ∃a gs b,d=some a/\H a=some (.frz b (.xd gs))/\DenF g.K α H fs gs
abbrev WE(g:Gm)(E:XK):XW:=λc fs _ α H=> ∀C d,g.mg c=some (.ref C)->FsD g α H d fs->E (.ref C) d H
noncomputable def QP:MV->Bool
 |.non=>true
 |.bl _=>true
 |.int _=>true
 |.str _=>true
 |_=>false
def Fy{K:O0}{d}{v}(h:QP d=true)(q:Den K α H d v):Den K α' H d v:=by
 cases d with
 |non=>cases gP q;exact qZ
 |bl _=>cases eV q;exact xI _
 |int _=>cases yI q;exact yQ _
 |str _=>cases yX q;exact eA _
 |_=>nomatch h
theorem JW{K:O0}{fs}{gs}(h:fs.all (λp=>QP p.2)=true)(q:DenF K α H fs gs):DenF K α' H fs gs:=by
 induction q with
 |nil=>exact .nil
 |cons a l i=>rw[List.all_cons,aE]at h;exact .cons (Fy h.1 a) (i h.2)
def Post.wmono[Dn β τ](f: ∀c fs S α' H',W c fs S α' H'->W' c fs S α' H'): ∀{m:R β}{Q},Post g W α H m Q->Post g W' α H m Q
 |.ok b S,Q,q=>q
 |.exc c fs S,_,q=>λα' H' x w=>f _ _ _ _ _ (q α' H' x w)
 |.no,_,q=>q
def UN(K:O0)(C:Addr)(y:A0)(a:Option Ś):Prop:=
 ∃nm q N bs c u sub o b j v m w s k,K.lookup C=some (excClassObj nm q C N bs y c u sub o b j v m w s k "ValueError.__new__")/\PySem.W.nsOkIn K N=true/\PySem.W.nsIn K N "__init__"=some a/\(∀n∈qn,PySem.W.nsIn K N n=some none)/\c=true
def XEach(K:O0)(mg:G0)(M:Addr):List (Str×Addr)->Prop
 |[]=>True
 |(c,C)::r=>(mg c=some (.ref C)/\ ∃i,UN K C (.ref M::EY) i)/\XEach K mg M r
structure XTab(K:O0)(mg:G0)(M:Addr)(cs:List (Str×Addr)):Prop where
 m:mg "MendError"=some (.ref M)
 mc:UN K M EY none
 each:XEach K mg M cs
 nd:(M::cs.map (·.2)).Nodup
theorem XEach.at{K:O0}: ∀{j},XEach K mg M j-> ∀{c C},(c,C)∈j->mg c=some (.ref C)/\ ∃i,UN K C (.ref M::EY) i
 |_::r,h,c',C',z=>by
  rcases mC.mp z with z|z
  .cases z;exact h.1
  .exact XEach.at h.2 z
def QQ{K:O0}(X:K.In h)(c:UN K C (.ref M::EY) i)(m:UN K M EY none):EZ h C M:=by
 obtain⟨_,_,N,_,_,_,_,_,_,_,_,_,_,_,_,l,o,_,q⟩:=c;obtain⟨_,_,s,_,_,_,_,_,_,_,_,_,_,_,_,k,b,_,j⟩:=m
 exact⟨_,_,_,_,_,_,_,_,_,_,_,_,_,_,_,_,_,X _ _ l,.of_isNs (PySem.W.isNs_of_in X o),λn a=>PySem.W.nsMap_none_of_in X o (q.1 n a),
  _,_,_,_,_,_,_,_,_,_,_,_,_,_,_,_,_,X _ _ k,.of_isNs (PySem.W.isNs_of_in X b),λn a=>PySem.W.nsMap_none_of_in X b (j.1 n a)⟩
section
variable{pos np cpos:Pos}
def Ga(hx:XOk X E)(hg:Gl X x)(G:X.mg x=some (.ref C))(hc:UN X.K C (.ref M::EY) none)(Y:UN X.K M EY none)(B:GY X (WE X.g E) (e::es) af)(k:X.ex=[]:=by rfl)(b:X.calm=true:=by rfl)
  (hd:(x==("__debug__"))=false:=by decide) (he:q9 X e es:=by rfl) (hpl:(backTo cpos (starEach es X.env)).any (·.1)=false:=by rfl):
  IA X (WE X.g E) (.Raise (some (.Call (.Name x np) (e::es) [] cpos)) none pos) (λu S=>(af u S).bind λrs Q=>if ↑9<=10 then .exc x [] Q else .no):=by
 refine B.a λta B fa=>?_;refine Z0 (λD σ H=>ta σ H λv j=>v.length<=10/\E (.ref C) none j) (λpins s σ H D I h=>?_) (λα u S σ H D wd sl q=>fa α u S σ H _ wd sl (q.expr λv rs Q m j e1 x1 w1 d1 o=>?_))
 .obtain⟨nm,q,N,bs,A,sn,sub,ab,col,dd,k0,k1,k2,k3,k5,lC,L,iN,_⟩:=hc;obtain⟨_,_,N',_,_,_,_,_,_,_,_,_,_,_,_,U,O,iM,_⟩:=Y;have c:=I.mod.kin;have P:=Heap.Ns.of_isNs (PySem.W.isNs_of_in c L);have w:=PySem.W.nsMap_none_of_in c L iN;have T:OwnTail X.base EY _:=.own (c _ _ U) (.of_isNs (PySem.W.isNs_of_in c O)) (PySem.W.nsMap_none_of_in c O iM) .base
  refine wpAny_Raise_call_subT (C:=C) (nm:=nm) (q:=q) (N:=N) (bs:=bs) (hdct:=A) (sn:=sn) (sub:=sub) (ab:=ab) (col:=col) (dd:=dd) (k0:=k0) (k1:=k1) (k2:=k2) (k3:=k3) (k5:=k5)
   F.excBase_ValueError (T.hasType F.excBase_ValueError.hasBase) (I.ok.hd b) (by rw[he];exact hpl) w (vK I hg G ⟨rfl,?_⟩ hd)
  have J:=B cpos pins s σ H _ I h;rw[he]at J ⊢;refine Calls.evalArgs_plain (xV J λus s1 ⟨v,j,I1,r1,y,Z⟩=>⟨rfl,by rw[<-r1.length];exact ì y ↑4,I1.bk _ _ (c _ _ lC),P.keeps I1.bk,T.keeps I1.bk,λh' a mk=>?_⟩);refine mk.there.c λt ht _ _=>?_;exact hx.born pins σ j _ a C none (I1.kept mk.keeps) (Zb _ _ ⟨ht,rfl,rfl,rfl,rfl,rfl⟩) (I1.older k mk.new) (I1.hok.none_of mk.new) Z
 .split at o
  .rename_i y;exact⟨by rw[ArgsE.length d1];exact y,o m j x1 w1 C none G (.inl rfl)⟩
  .exact o.elim
end
section
variable{pos p p2:Pos}
noncomputable def tX(ns:D0)(a:Str):Er->Sto->R Er
 |.val (.loc l),S=>match S[l]? with
  |some (.ins c _)=>if c∈ns then .ok (.val (.bl (decide (c=a)))) S else .no
  |_=>.no
 |_,_=>.no
noncomputable def Lx(ns:D0):Er->Sto->R Er
 |.val (.loc l),S=>match S[l]? with
  |some (.ins c _)=>if c∈ns then .ok (.val (.bl true)) S else .no
  |_=>.no
 |_,_=>.no
def IsX(X:Cx)(M:Addr)(H:Hp)(x:V)(C:Addr):Prop:= ∃b a,x=.ref b/\H b=some (.frz a (.ext λh=>h.get? b=some a))/\a.cls=.ref C/\(∃i,UN X.K C (.ref M::EY) i)/\UN X.K M EY none
def Ly:CallR X (.builtin "isinstance") (λxs H Q=> ∃x C D,xs=[x,.ref D]/\IsX X M H x C/\(C=D\/(C≠D/\M≠D/\ ∃y i,UN X.K D y i))/\Q (.bl (decide (C=D))) H):=by
 intro pins s σ H xs v Q I r h;refine h.i λ_ C D U=>U.e λW Y P q=>?_;subst W;obtain ⟨F,T,rfl,J,w,⟨i,E⟩,L⟩:=Y
 obtain⟨o,v,m,⟨j,_,k,G,rfl⟩,rfl⟩: ∃o b,RelV _ o/\(∃j a,RelV _ j/\Vals [] a/\b=j::a)/\v=o::b:=by
  cases r with
  |cons m r=>cases r with
   |cons k r=>exact ZC _ _ m (ZC _ _ k r rfl) rfl
 subst m;subst k;cases G;have A:=(I.hok F _ J).1;have O:=QQ I.kIn E L;rcases P with rfl|⟨n1,n2,y,i2,cD⟩
 .refine PyProof.Rows.call_isinstance_of (Fa A w (ZC (.bl true) H I rfl ?_));simpa using q
 .refine cD.y λ_ _ _ _ _ _ _ _ _ _ _ _ _ _ _ V=>V.elim λB _=>?_;refine(Jw O).c λS N c u=>?_;refine PyProof.Rows.call_isinstance_of (Qx O A w (I.kIn _ _ B) N c u ?_ (ZC (.bl false) H (I.tok _) rfl ?_))
  .simp only[Ĭ,List.contains_nil,Bool.or_eq_false_iff,ğ];exact⟨λz=>n1 (by cases z;rfl),λz=>n2 (by cases z;rfl),by simp,by simp,by simp,by simp,trivial⟩
  .simpa [n1]using q
def Lz:CallR X (.builtin "isinstance") (λxs H Q=> ∃x C,xs=[x,.ty "ValueError"]/\IsX X M H x C/\Q (.bl true) H):=by
 intro pins s σ H xs o Q I r h;refine h.b λ_ C F G q=>?_;subst F;obtain ⟨y,E,rfl,D,v,⟨i,u⟩,w⟩:=G
 obtain⟨c,o,m,⟨j,_,k,B,rfl⟩,rfl⟩: ∃c b,RelV _ c/\(∃j a,RelV _ j/\Vals [] a/\b=j::a)/\o=c::b:=by
  cases r with
  |cons m r=>cases r with
   |cons k r=>exact ZC _ _ m (ZC _ _ k r rfl) rfl
 subst m;subst k;cases B;have A:=(I.hok y _ D).1;have O:=QQ I.kIn u w;exact PyProof.Rows.call_isinstance_of (Qy O A v (by kernel_rfl) (by simp[Ĭ]) (ZC (.bl true) H I rfl q))
def Bh(T:XTab X.K X.mg M cs)(y:↑19)(d:(DenX X.K α H r x))(e:r=.val (.loc l))(k:S[l]? =some (.ins c fs))(v:c∈cs.map (·.1)):
  ∃C,(c,C)∈cs/\IsX X M H x C:=by
 subst e;refine(eW d).a λj F h=>?_;subst F;obtain⟨o,E,C,gs,u,D,q,A,b,_⟩: ∃o,S[l]? =some o/\ObD X.g α H j _:=(Z0 _ k (y.obj l j _ h k))
 refine(mM0.mp v).a λG a I=>?_;obtain ⟨m,s⟩:=G;subst I;obtain⟨B,w⟩:=T.each.at a;have:C=s:=by have z:X.mg m=some _:=u;rw[B]at z;cases z;rfl
 subst this;exact⟨C,a,j,q,rfl,A,b,w,T.mc⟩
theorem XTab.inj{K:O0}(T:XTab K mg M cs)(h:(c,C)∈cs)(h':(c',C')∈cs)(k:(cs.map (·.1)).Nodup):(C=C'↔c=c'):=by
 constructor
 .rintro rfl;have j:=(nodup_cons.mp T.nd).2
  have: ∀(l:List _),(l.map (·.2)).Nodup->(c,C)∈l->(c',C)∈l->c=c':=by
   intro l
   induction l with
   |nil=>intro _ z;simp at z
   |cons y r ih=>
    intro j a b;rw[í,nodup_cons]at j;rcases mC.mp a with a1|a1<;>rcases mC.mp b with b1|b1
    .rw[<-b1]at a1;cases a1;rfl
    .exact absurd (by rw[<-a1];exact mM0.mpr ⟨(c',C),b1,rfl⟩) j.1
    .exact absurd (by rw[<-b1];exact mM0.mpr ⟨(c,C),a1,rfl⟩) j.1
    .exact ih j.2 a1 b1
  exact this cs j h h'
 .rintro rfl;have a:=(T.each.at h).1;rw[(T.each.at h').1]at a;cases a;rfl
def nH(T:XTab X.K X.mg M cs)(O:(cs.map (·.1)).Nodup)(j:(c2,D)∈cs)(hz:X.mg "isinstance"=none)(P:Gl X "isinstance")(s:Gl X c2)(o:zP X W a f)(k:cs.map (·.1)=ns:=by rfl)(B:(c2==("__debug__"))=false:=by decide)
  (he:starEach [a,.Name c2 p2] X.env=((false,eval a X.env))::starEach [.Name c2 p2] X.env:=by rfl) (hp2:(backTo pos (starEach [.Name c2 p2] X.env)).any (·.1)=false:=by rfl):
  zP X W (.Call (.Name "isinstance" p) [a,.Name c2 p2] [] pos) (λm S=>(f m S).bind (tX ns c2)):=by
 subst k;refine o.a λZ o G=>?_;have F:=(T.each.at j).1;refine Z0 _ (tL (Ly (M:=M)) P hz PyProof.Rows.boot_isinstance (aY o (aY (ZX (v:=.ref D) s F rfl B) BO) he) ↑4 ↑4 he hp2) (λα m S σ H Q N sl q=>G α m S σ H _ N sl (q.bind λu r S1 E H1 e1 A w J b=>?_))
 replace b:=b.shift A
 unfold tX at b;split at b
 .rename_i l;split at b
  .rename_i c fs Y;split at b
   .rename_i L;refine(Bh T w J.1 rfl Y L).a λC U ix=>?_;refine Zq u C D rfl ix ?_ ?_
    .by_cases z:C=D
     .exact .inl z
     .exact .inr ⟨z,λy=>(nodup_cons.mp T.nd).1 (by rw[y];exact mM0.mpr ⟨_,j,rfl⟩),_,(T.each.at j).2⟩
    .have I:decide _=decide _:=Ň.mpr (T.inj U j O);rw[I];exact Post.val b w (xI _)
   .exact b.elim
  .exact b.elim
 .exact b.elim
def J8(T:XTab X.K X.mg M cs)(hz:X.mg "isinstance"=none)(o:X.mg "ValueError"=none)(G:Gl X "isinstance")(m:Gl X "ValueError")(k:zP X W a f)(j:cs.map (·.1)=ns:=by rfl)
  (he:starEach [a,.Name "ValueError" p2] X.env=((false,eval a X.env))::starEach [.Name "ValueError" p2] X.env:=by rfl) (hp2:(backTo pos (starEach [.Name "ValueError" p2] X.env)).any (·.1)=false:=by rfl):
  zP X W (.Call (.Name "isinstance" p) [a,.Name "ValueError" p2] [] pos) (λy S=>(f y S).bind (Lx ns)):=by
 subst j;refine k.a λP k w=>?_;refine Z0 _ (tL (Lz (M:=M)) G hz PyProof.Rows.boot_isinstance (aY k (aY (ZY (v:=.ty "ValueError") m o ↑10 rfl ↑4 ↑4) BO) he) ↑4 ↑4 he hp2) (λα y S σ H Q E sl q=>w α y S σ H _ E sl (q.bind λu r J F L N A s B b=>?_))
 replace b:=b.shift A
 unfold Lx at b;split at b
 .rename_i l;split at b
  .rename_i c fs I;split at b
   .rename_i D;refine(Bh T s B.1 rfl I D).a λC O ix=>?_;exact ZC u C rfl ix (Post.val b s (xI _))
   .exact b.elim
  .exact b.elim
 .exact b.elim
end
def Ma(g:Gm)(n:Nat)(F:↑16):Sp:=λb H Q E=> ∃α S a,Wd g α S H/\DenL g.K α H a b/\a.length=n/\Post g (WE g E) α H (F a S) Q
def qD(n:Nat)(F:List MV->Sto->R Er)(rs:List Er)(S:Sto):R Er:=if rs.length=n then(match F (zK rs S).1 (zK rs S).2 with
 |.ok r S2=>gI S r S2
 |.exc c fs S2=>if fs.all (λp=>QP p.2)=true then(gI S (.val .non) S2).bind λ_ a=>.exc c fs a else .exc c fs S2
 |.no=>.no)else .no
section
variable{X:Cx}
def YB(m:Ext α H α1 H1)(B:Wd X.g α1 S1 H1)(T:ArgsE X.K H α1 H1 rs vs)(q:Post X.g (WE X.g E) α H (qD n F rs S1) Q):
  Ma X.g n F vs H1 Q E:=by
 unfold qD at q;split at q
 .rename_i W;refine(pY B m T).elim λo V=>V.e λu I U P=>?_;refine Zq o _ _ U P (by rw[vO];exact W) ?_
  cases z:F (zK rs S1).1 (zK rs S1).2 with
  |ok r S3=>
   rw[z]at q;intro v a b j k J;refine(QB m B I.pre u j k J).i λr' L α' a0=>a0.e λD s y G=>?_;have q:Post X.g _ α H (gI S1 r S3) Q:=q;rw[D]at q;exact q v α' b s y G
  |exc c fs S3=>
   rw[z]at q;dsimp only at q;split at q
   .rename_i O;intro a b j k C d A w;refine(QB m B I.pre u j k (DenE.val qZ)).i λr' L α' a1=>a1.e λD s y G=>?_;rw[D]at q;exact q α' b s y C d A (w.imp id λ⟨M,gs,Z,S,N,Y⟩=>(Zv M gs Z ⟨S,N,JW O Y⟩))
   .exact λa b j k C d A w=>q a b (u.trans j) k C d A w
  |no=>rw[z]at q;exact q.elim
 .exact q.elim
end
section
variable{K:O0}
def okX{st:Stmt}(Fb)(F:Fun K x qual st f fd)(M:FnScope N ps (zI st))
  (hbody: ∀ j  A  outer  s  H  E ,Room k (A.deeper (envOfC qual (zI st) ↑0 f j))->
   tI (IU (Ij P w) P w K mg base N qual (zI st) f j A outer s H E) (WE ⟨K,mg,P,w⟩ E) (xW st) Fb):
  FnOk P w K mg base (Ij P w) (k+1) f fd ps (Ma ⟨K,mg,P,w⟩ ps.length λds S=>zN (Fb (zH N ds) S)):=by
 refine F.ex.v λO X kV u U W j T B V=>V.f λac I m=>?_;subst ac;refine Xj I m M (λD H Q E h=>?_) λA outer s H D Q E J h=>?_
 .refine h.i λα S ds Z=>Z.e λ_ l o _=>?_;rw[(l.length),o]
 .refine h.i λα S ds a0=>a0.e λL l o q=>?_;refine(hbody j A outer s H E J).a λt y C=>?_;refine Z0 t y (C α _ S _ H _ L (GZ l) ?_);dsimp only at q
  cases z:Fb _ S with
  |ok fl S'=>
   rw[z]at q
   cases fl with
   |next ρ=>exact λσ α' H' a b Y=>q .non α' H' a b (DenE.val qZ)
   |ret r=>exact λv α' H' a b G=>q v α' H' a b G
   |brk ρ=>exact q.elim
   |cont ρ=>exact q.elim
  |exc c fs S'=>rw[z]at q;exact λα' H' a b=>q α' H' a b
  |no=>rw[z]at q;exact q
def _root_.L2.FnOk.noX(G:FnOk P w K mg base (Ij P w) k f fd ps (Ma g n F)):FnOk P w K mg base tH k f fd ps (JM g n F):=by
 have j: ∀{vs H Q}, ∀{E},JM g n F vs H Q E->Ma g n F vs H Q E0:=λ⟨α,S,o,y,v,B,m⟩=>(Zq (α) S o y v B (m.wmono λ_ _ _ _ _ z=>z.elim))
 refine⟨λvs H Q E h=>G.len vs H Q E0 (j h),λA a s H b u vs Q E q D I C h=>İ (G.run A a s H b u vs Q E0 q D I C (j h)) λr J c=>?_⟩
 cases r with
 |error e=>
  obtain⟨_,_,_,_,_,_,_,_,_,_,_,_,_,_,_,z⟩:=c;exact z
 |ok fl=>cases fl<;>exact c
end
end M
end L2
namespace L2
open PySem PySem.Spec PyProof.Rows
structure Out(X:Cx)(pins:L0)(H:Hp)(s:ř)(b:Addr):Prop where
 s0:X.s₀.heap.get? b=none
 h:H b=none
 pin: ∀p∈X.pn++pins,p.1≠b
 fld: ∃o vs,s.heap.get? b=some o/\o.data=.fields vs
section
variable{H:Hp}{e b:Addr}
def Out.ne(o:Out X pins H s b)(a:s.heap.get? c=some oc)(nf: ∀vs,oc.data≠.fields vs):c≠b:=λz=>by refine o.fld.d λob vs k j=>?_;rw[z,k]at a;cases a;exact nf vs j
def Out.loc(o:Out X pins H s b)(I:↑1):X.env.locals≠b:=by refine I.loc.a λm u _=>?_;obtain ⟨k,es,q,c,a,_⟩:=u;exact o.ne c λj z=>by rw[a]at z;cases z
def Out.cell(o:Out X pins H s b)(I:↑1)(k:X.env.cells.lookup x=some c):c≠b:=by refine(I.cell x c k).d λv q j a=>?_;exact o.ne j λm z=>by rw[a]at z;cases z
def Inv.mvd(J:↑1)(j:X.ex=[])(m:Mvd (MA X.stack) e T s.heap h')(q:Out X pins H s e)(w:Out X pins H s T):Inv X pins σ H {s with heap:=h'}:=by
 obtain⟨u,C⟩:=J.moved j m q.s0 w.s0 q.h w.h;have ns: ∀mm,s.heap.Ns X.env.locals mm->h'.Ns X.env.locals mm:=λmm B=>by refine B.n λo es K A r=>?_;obtain⟨sl,b⟩:=m.slot _ o (q.loc J) (w.loc J) A;exact Zc _ es K b r
 have cell: ∀x c,X.env.cells.lookup x=some c-> ∀v,s.heap.IsCell c v->h'.IsCell c v:=λx c a v L=>by refine L.a λo A E=>?_;obtain⟨sl,b⟩:=m.slot c o (q.cell J a) (w.cell J a) A;exact Z0 _ b E
 refine⟨J.ok,J.os,J.bare,by rw[j];exact u,?_,λx c a=>?_,J.free,J.freeC,λp y=>?_,C,J.len⟩
 .refine J.loc.a λmm B I=>?_;refine Z0 mm (ns mm B) (λi x v b F D=>?_);refine(I i x v b F D).a λu r l=>?_;exact Z0 u r (l.imp id λ⟨k,c,a,z⟩=>⟨k,c,a,cell x c a _ z⟩)
 .obtain⟨v,z⟩:=J.cell x c a;exact⟨v,cell x c a v z⟩
 .refine(J.pin p y).h λb n ne nf G=>?_;refine⟨m.keep p.1 p.2 (q.pin p y) (w.pin p y) (λz=>?_) b,n,ne,nf,G⟩;rcases mC.mp (J.stkSub _ z)with z|z
  .exact ne z
  .exact nf z
def Inv.track(J:↑1)(o:Out X pins H s e)(a:s.heap.get? e=some ob):Inv X pins σ (yV H e (.frz ob (.ext λh=>h.get? e=some ob))) s:=by
 refine⟨J.ok,J.os,J.bare,⟨J.base.keep,J.base.slot,λb j q n A=>?_,J.base.there,λb xs q=>?_,λb w u q=>?_,λb ps q=>?_⟩,J.loc,J.cell,?_,λx c m=>?_,λp v=>?_,λb u q=>?_,J.len⟩
 .rw[zD λz=>by rw[z,o.s0]at q;cases q];exact J.base.free b j q n A
 .rw[zD (zG (J.base.tups b xs q) o.h)];exact J.base.tups b xs q
 .rw[zD (zG (J.base.frzs b w u q) o.h)];exact J.base.frzs b w u q
 .rw[zD (zG (J.base.tbls b ps q) o.h)];exact J.base.tbls b ps q
 .rw[zD (o.loc J)];exact J.free
 .unfold FzC;rw[zD (o.cell J m)];exact J.freeC x c m
 .refine(J.pin p v).h λB n ne nf y=>?_;exact⟨B,by rw[zD (o.pin p v)];exact n,ne,nf,y⟩
 .by_cases z:b=e
  .subst z;rw[zO]at q;cases q;exact⟨a,a,⟨ob,a⟩,λD C p k=>k _ p⟩
  .rw[zD z]at q;exact(J.hok b u q).stay (λ_ _ _ r=>r) (λc r=>by rw[zD (zG r o.h)];exact r) (λc xs r=>by rw[zD (zG r o.h)];exact r) λc ob xs r=>by rw[zD (zG r o.h)];exact r
structure Hv where
 e:Addr
 H:Hp
 ob:Obj
 u:HO
 h:H e=some (.frz ob u)
 c: ∃vs,ob.data=.fields vs/\vs[2]? =some .none
abbrev Cx.inH(X:Cx)(v:Hv):Cx:={X with A:=X.A.mark (some (.ref v.e)),calm:=false,xe:=λ_ _=>False,H₀:=v.H}
abbrev Cx.inM(X:Cx)(v:Value):Cx:={X with A:=X.A.mark (some v),calm:=false,xe:=λ_ _=>False}
def Inv.inM(I:↑1)(v):Inv (X.inM v) pins σ H s:=⟨⟨I.ok.mod,I.ok.kind,I.ok.glob,I.ok.blt,I.ok.above,I.ok.inj,I.ok.has,I.ok.cab,λz=>(by cases z),I.ok.frames,I.ok.stk,I.ok.exf,I.ok.bs,I.ok.bsz,I.ok.noex,I.ok.exfs,I.ok.funs,I.ok.frf⟩,I.os,I.bare,I.base,I.loc,I.cell,I.free,I.freeC,I.pin,I.hok,I.len⟩
def Inv.inH(I:↑1)(a:v.H=yV X.H₀ v.e (.frz v.ob v.u))(n:X.s₀.heap.get? v.e=none)(m:H v.e=some (.frz v.ob v.u)):Inv (X.inH v) pins σ H s:=by
 have ne: ∀b o,X.s₀.heap.get? b=some o->v.H b=X.H₀ b:=λb o q=>by rw[a,zD λz=>by rw[z,n]at q;cases q]
 have j: ∀b w,v.H b=some w->(∀o u,w≠.frz o u)->X.H₀ b=some w:=λb w q k=>by
  by_cases z:b=v.e
  .rw[z,v.h]at q;exact absurd (å q).symm (k _ _)
  .rw[a,zD z]at q;exact q
 refine⟨⟨I.ok.mod,I.ok.kind,I.ok.glob,I.ok.blt,I.ok.above,I.ok.inj,I.ok.has,I.ok.cab,λz=>(by cases z),I.ok.frames,I.ok.stk,I.ok.exf,λb o q=>?_,⟨I.ok.bsz.1,λb ps q=>by have q:=I.ok.bsz.2 b ps q;show v.H b=_;rw[show v.H b=X.H₀ b from by rw[a,zD λz=>by have:=I.base.tbls b ps q;rw[z,m]at this;cases this]];exact q,I.ok.bsz.3⟩,I.ok.noex,I.ok.exfs,I.ok.funs,λb q=>?_⟩,I.os,I.bare,⟨λb o q k=>?_,λb o q k=>?_,λb o q k=>?_,I.base.there,λb xs q=>I.base.tups b xs (j b _ q λ_ _ z=>by cases z),λb o u q=>?_,λb ps q=>I.base.tbls b ps (j b _ q λ_ _ z=>by cases z)⟩,I.loc,I.cell,I.free,I.freeC,I.pin,I.hok,I.len⟩
 .obtain⟨c,A⟩:=I.ok.bs b o q;exact⟨c,(ne b o c).trans A⟩
 .obtain⟨_,o,y,_⟩:=I.ok.funs.mem q;exact(ne b o y).trans (I.ok.frf b q)
 .exact I.base.keep b o q ((ne b o q).symm.trans k)
 .exact I.base.slot b o q ((ne b o q).symm.trans k)
 .exact I.base.free b o q ((ne b o q).symm.trans k)
 .by_cases z:b=v.e
  .subst z;have q:v.H v.e=some _:=q;rw[v.h]at q;cases q;exact m
  .have q:v.H b=some _:=q;rw[a,zD z]at q;exact I.base.frzs b o u q
def Inv.outH(J:Inv X pins σ0 H0 s0)(j:v.H=yV X.H₀ v.e (.frz v.ob v.u))(n:X.s₀.heap.get? v.e=none)(a:H0 v.e=none)(I:Inv (X.inH v) pins σ H s):Inv X pins σ H s:=by
 have ne: ∀b o,X.s₀.heap.get? b=some o->v.H b=X.H₀ b:=λb o q=>by rw[j,zD λz=>by rw[z,n]at q;cases q]
 have c: ∀b w,X.H₀ b=some w->b≠v.e->v.H b=some w:=λb w q k=>by rw[j,zD k];exact q
 refine⟨J.ok,I.os,I.bare,⟨λb o q k=>I.base.keep b o q ((ne b o q).trans k),λb o q k=>I.base.slot b o q ((ne b o q).trans k),λb o q k=>I.base.free b o q ((ne b o q).trans k),I.base.there,λb xs q=>I.base.tups b xs (c b _ q λz=>?_),λb o u q=>I.base.frzs b o u (c b _ q λz=>?_),λb ps q=>I.base.tbls b ps (c b _ q λz=>?_)⟩,I.loc,I.cell,I.free,I.freeC,I.pin,I.hok,I.len⟩
 .have:=J.base.tups b xs q;rw[z,a]at this;cases this
 .have:=J.base.frzs b o u q;rw[z,a]at this;cases this
 .have:=J.base.tbls b ps q;rw[z,a]at this;cases this
theorem name_goes(I:↑1)(W:X.N.Nodup)(hi:X.N[i]? =some x)(hk:X.env.kindOf x=some .local)
  (h: ∀U,Inv X pins (σ.set i none) H U->Q () U):wpAny M A (do bindName X.env x .none;unbindBehindTheSuite X.env x pos) Q E s:=by
 refine(id I.loc).a λm hn P=>?_;have C:(X.env.scope.kind==.class || (X.env.scope.kind==.module&&X.env.locals !=X.env.globals))=false:=by rw[I.ok.kind];rfl
 refine wpAny_nameGoes_keeps hk hn C λh' v F hs=>h _ ?_;have keep: ∀b o,b≠X.env.locals->s.heap.get? b=some o->h'.get? b=some o:=λb o z q=>(hs.2 b z).trans q;have D: ∀b o,X.s₀.heap.get? b=some o->b≠X.env.locals:=λb o e=>ä (ê (â e) I.ok.above);refine(id F).n λaa _ _ J _=>?_
 have there: ∀b o,s.heap.get? b=some o-> ∃K,h'.get? b=some K:=λb o q=>by
  by_cases z:b=X.env.locals
  .rw[z];exact⟨_,J⟩
  .exact⟨o,keep b o z q⟩
 refine⟨I.ok,I.os,I.bare,⟨λb o e n S B=>keep b o (D b o e) (I.base.keep b o e n S B),λb o e n S B=>?_,I.base.free,λb o e B=>?_,I.base.tups,I.base.frzs,I.base.tbls⟩,(Z0 _ F (λj y v' w a Y=>?_)),λy c e=>?_,I.free,I.freeC,λp Z=>?_,λb u q=>?_,by rw[ā];exact I.len⟩
 .obtain⟨sl,w⟩:=I.base.slot b o e n S B;exact⟨sl,keep b _ (D b o e) w⟩
 .obtain⟨K,w⟩:=I.base.there b o e B;exact there b K w
 .have T:j≠i:=λz=>by
   subst z;by_cases P:j<σ.length
   .rw[Ā P]at a;cases a
   .rw[Ď (by rw[ā];lia)]at a;cases a
  rw[ñ (Ne.symm T)]at a;refine(P j y v' w a Y).a λu r q=>?_;refine Z0 u r ?_;have G:y≠x:=λz=>T (IQ W w (z▸hi));rcases q with⟨k,q⟩|⟨k,c,e,z⟩
  .exact .inl ⟨k,by simp[G,q]⟩
  .exact .inr ⟨k,c,e,z.sameBut hs (I.cne y c e)⟩
 .obtain⟨O,z⟩:=I.cell y c e;exact⟨O,z.sameBut hs (I.cne y c e)⟩
 .refine(I.pin p Z).h λe n ne nf dd=>?_;exact⟨keep p.1 p.2 ne e,n,ne,nf,dd⟩
 .refine(I.hok b u q).stay (λc O L r=>keep c O (λz=>?_) r) (λ_ q=>q) (λ_ _ q=>q) λ_ _ _ q=>q
  have: ∃y,H c=some y:=by
   rcases L with rfl|L
   .exact⟨_,q⟩
   .exact⟨_,L⟩
  obtain⟨y,G⟩:=this;rw[z,I.free]at G;cases G
end
def YC{os:OsState}(O:EZ h C M)(c:h.get? e=some oe)(j:oe.cls=.ref C)
  (hq:Q true ⟨h,g,d,t,os⟩):wpAny Mo A (excMatches (.ref e) (.ref M)) Q E ⟨h,g,d,t,os⟩:=by
 have k:(Value.ref C::.ref M::EY).contains (.ref M)=true:=by simp[Ĭ]
 have f:=(show isSubtype (.type "type") (.type "tuple")=pure false by rw[ń];kernel_rfl);have m:=O;obtain⟨_,_,_,_,_,_,_,_,_,_,_,_,_,_,_,_,_,_,_,_,_,_,_,_,_,_,_,_,_,_,_,_,_,_,_,_,_,a,_⟩:=O;have b:(Value.ref M::EY).contains (.type "BaseException")=true:=by simp[Ĭ]
 unfold excMatches
 repeat (first |(with_reducible refine Đ c ?_;rw[j])|with_reducible refine Đ a ?_|(with_reducible refine tS m ?_;rw[k])|(with_reducible refine wpAny_isSubtype_exc a ?_;rw[b])|wp_step)
 exact hq
end L2
namespace L2
namespace M
open PySem PySem.Spec PyProof.Rows
def Slots.unset{K:O0}(q:Slots K α H ρ σ)(i):Slots K α H (ρ.set i none) (σ.set i none):=by
 refine⟨by rw[ā,ā];exact q.len,λj d e=>?_⟩;rcases Al e with⟨_,z,_⟩|⟨hj,e'⟩
 .cases z
 .obtain⟨v,b,a⟩:=q.slot j d e';exact⟨v,by rw[ñ (Ne.symm hj)];exact b,a⟩
noncomputable def zBN(i:Nat):Fl->Sto->R Fl
 |.next ρ,S=>.ok (.next (ρ.set i none)) S
 |.ret r,S=>.ok (.ret r) S
 |.brk ρ,S=>.ok (.brk (ρ.set i none)) S
 |.cont ρ,S=>.ok (.cont (ρ.set i none)) S
def YD(ns:D0)(i:Nat)(kn:Er->Sto->R Fl)(b:AY)(a:Rho):R Er->R Fl
 |.ok r S=>kn r S
 |.exc c fs S=>if c∈ns then(noX (b (a.set i (some (.loc S.length))) (S++[.ins c fs]))).bind (zBN i)else .no
 |.no=>.no
def PostS.exprX[Dn β τ]{k:β->Sto->R Fl}(q:PostS g W α H D ((noX m).bind k))
  (f:(∀u b y j v,m=.ok b y->Ext α H j v->Wd g j y v->Dn.d g H j y v b u->PostS g W α H D (k b y)->Q' u v)):Post g W0 α H m Q':=by
 cases m with
 |ok b S=>exact λu j v x w d=>f u b S j v rfl x w d q
 |exc c fs S=>exact q.elim
 |no=>exact q
def E2(X:Cx)(W:XW)(ns:D0)(i:Nat)(j:AY)(k:Rho)(α:B9)(H:Hp)(D:Ends):XK:=λb d H'=> ∃c fs a α' C,b=.ref C/\X.mg c=some (.ref C)/\Ext α H α' H'/\Wd X.g α' a H'/\FsD X.g α' H' d fs/\
 PostS X.g W α H D (if c∈ns then(noX (j (k.set i (some (.loc a.length))) (a++[.ins c fs]))).bind (zBN i)else .no)
section
variable{s:ř}
def J9(T:XTab X.K X.mg M cs)(ar:Gl X "MendError")(hN:X.N.Nodup)(hi:X.N[i]? =some nm)(Z:X.env.kindOf nm=some .local)(L: ∀v,tI (X.inH v) W0 (b0::suite) Fh)(E:X.ex=[])(j:X.stack=X.env::X.outer)(aw:X.env.frame=some X.env.locals)
  (sl:Slots X.K α H ρ σ) (I1:Inv X pins σ H1 s1)  (hq:Ij X.prog X.w X.stack H1 s1 (E2 X W (cs.map (·.1)) i Fh ρ α H D) x s'):
  wpAny ↑5 X.A (noteFrame x X.env) (λ_ s₂=>wpAny ↑5 X.A (setFlight x none) (λ_ s₃=>wpAny ↑5 X.A (handleBy x X.env [.ExceptHandler (some (.Name "MendError" mp)) (some nm) (b0::suite) hpos]) (SP X pins D) X.xe s₃) X.xe s₂) X.xe s':=by
 obtain⟨e,Tb,C,d,H',rfl,os,aa,un,ao,fl,ne,nT,he,hT,c,fs,S2,α',C',eC,U,xx,w2,hf,q⟩:=hq;cases eC;split at q
 .rename_i a0;have J:Inv X pins σ H' s':=I1.call' (ch:=[]) os un ao aa (λ_ z=>nomatch z);have ae:X.A.frames=some (X.env::X.outer):=by rw[<-j];exact J.ok.frames
  have hl:s'.heap.FunFrames X.base (X.env::X.outer):=by rw[<-j];exact J.stack
  have a:Out X pins H' s' e:=by refine(id fl).l λob F _ _ B _ _ o _=>?_;exact⟨I1.older E ne,he,λp hp z=>(by have:=(I1.pin p hp).1;rw[z,ne]at this;cases this),ob,F,B,o⟩
  have oT:Out X pins H' s' Tb:=by refine(id fl).p λ_ _ ob ts a1=>a1.s λ_ _ _ _ _ _ B o _=>?_;exact⟨I1.older E nT,hT,λp hp z=>(by have:=(I1.pin p hp).1;rw[z,nT]at this;cases this),ob,ts,B,o⟩
  refine NN ae hl aw fl λh3 T3 n3 m3 f3=>?_;rw[<-j]at m3;have J3:=J.mvd E m3 a oT;have ag:Out X pins H' {s' with heap:=h3} e:=by refine(id f3).l λob F _ _ B _ _ o _=>?_;exact⟨a.s0,a.h,a.pin,ob,F,B,o⟩
  have G:Out X pins H' {s' with heap:=h3} T3:=by refine(id f3).p λ_ _ ob ts a2=>a2.s λ_ _ _ _ _ _ B o _=>?_;exact⟨J.older E n3,J.hok.none_of n3,λp hp z=>(by have:=(J.pin p hp).1;rw[z,n3]at this;cases this),ob,ts,B,o⟩
  refine iO (env:=X.env) (outer:=X.outer) f3 λh4 m4 f4=>?_;rw[<-j]at m4;have J4:=J3.mvd E m4 ag G;have ak:Out X pins H' {s' with heap:=h4} e:=by refine(id f4).l λob F _ _ B _ _ o _=>?_;exact⟨a.s0,a.h,a.pin,ob,F,B,o⟩
  have aq:Out X pins H' {s' with heap:=h4} T3:=by refine(id f4).p λ_ _ ob ts a5=>a5.s λ_ _ _ _ _ _ B o _=>?_;exact⟨G.s0,G.h,G.pin,ob,ts,B,o⟩
  have av: ∃i,UN X.K C (.ref M::EY) i:=by
   refine(mM0.mp a0).a λac au al=>?_;obtain ⟨c',C'⟩:=ac;subst al;obtain⟨q1,q2⟩:=T.each.at au;have:C=C':=by rw[U]at q1;cases q1;rfl
   refine qq this ?_;exact q2
  obtain⟨a4,cC⟩:=av;refine wpAny_handleBy_cons (codeAny_handlers_test (vK (X:=X.inM (.ref e)) (J4.inM (.ref e)) ar T.m ?_)) (by intro z;cases z);refine(id f4).p λa3 _ _ _ a6=>a6.f λax ah _=>?_;refine YC (QQ J4.kIn cC T.mc) ax ah ?_;refine codeAny_handlers_suite_as ?_;refine iO (env:=X.env) (outer:=X.outer) (s:={s' with heap:=h4}) f4 λh5 m5 f5=>?_;rw[<-j]at m5;have J5:=J4.mvd E m5 ak aq;have⟨ob,F,_,_,B,ab,ai,o,_,_,_,_,_,aj⟩:=id f5;have ay:Out X pins H' {s' with heap:=h5} e:=⟨a.s0,a.h,a.pin,ob,F,B,o⟩
  have J6:=J5.track ay B
  have xw:=w2.put (m:=.ins c fs) a.h (by
   rcases hf with rfl|⟨dx,gs,od,hd1,hd2,hd3⟩
   .exact⟨C,[],U,.nil,ob,zO,ab,.inl rfl⟩
   .have az:Ext α' H' α' (yV H' e (.frz ob (.ext λh=>h.get? e=some ob))):=w2.newx a.h;exact⟨C,gs,U,(hd3.ex0 az.toEx0).ex0 (Ex0.grow _ _ _),ob,zO,ab,.inr ⟨dx,od,ai.trans hd1,(by rw[zD (zG hd2 a.h)];exact hd2),F,o⟩⟩)
  let V:Hv:=⟨e,yV X.H₀ e (.frz ob (.ext λh=>h.get? e=some ob)),ob,_,zO,F,o,aj⟩
  refine IR (X:=X.inH V) (J6.inH (v:=V) rfl a.s0 zO) hN hi (.inl Z) (v:=.ref e) rfl (λs7 J7=>?_) (.inr Z);refine(L V).a λth af kh=>?_;let D':Ends:={nx:=λσ H=>D.nx (σ.set i none) H,rt:=D.rt,bk:=λσ H=>D.bk (σ.set i none) H,ct:=λσ H=>D.ct (σ.set i none) H}
  have I:PostS X.g W (α'++[e]) _ D _:=PostS.shift (xx.trans xw.1) q
  have ht:th D' (σ.set i (some (.ref e))) (yV H' e (.frz ob (.ext λh=>h.get? e=some ob))):=by
   refine kh (α'++[e]) (ρ.set i (some (.loc S2.length))) (S2++[.ins c fs]) _ _ D' xw.2 (((sl.ext xx).ext xw.1).set (vM (by rw[<-w2.len,ð (à _),sub_self];rfl))) ?_
   cases z:Fh (ρ.set i (some (.loc S2.length))) (S2++[.ins c fs])with
   |ok fl S8=>
    rw[z]at I
    cases fl with
    |next ρ8=>exact λb k y S O s8=>I (b.set i none) k y S O (s8.unset i)
    |ret r8=>exact λv8 k y S O d8=>I v8 k y S O d8
    |brk ρ8=>exact λb k y S O s8=>I (b.set i none) k y S O (s8.unset i)
    |cont ρ8=>exact λb k y S O s8=>I (b.set i none) k y S O (s8.unset i)
   |exc c8 fs8 S8=>rw[z]at I;exact I.elim
   |no=>rw[z]at I;exact I.elim
  refine ċ (af pins s7 _ _ D' J7 ht) (λf s8 hs=>?_) λ_ _ z=>z.elim;(show wpAny _ _ _ _ _ _)
  cases f with
  |next=>
   obtain⟨b,y,P,Y⟩:=hs;(exact name_goes (J.outH (v:=V) rfl a.s0 a.h P) hN hi Z λs9 Q=>(Zy _ y Q Y))
  |brk=>
   obtain⟨b,y,P,Y⟩:=hs;(exact name_goes (J.outH (v:=V) rfl a.s0 a.h P) hN hi Z λs9 Q=>(Zy _ y Q Y))
  |cont=>
   obtain⟨b,y,P,Y⟩:=hs;(exact name_goes (J.outH (v:=V) rfl a.s0 a.h P) hN hi Z λs9 Q=>(Zy _ y Q Y))
  |ret u=>
   refine hs.i λv8 b y a7=>a7.f λP r8 Y=>?_;exact name_goes (J.outH (v:=V) rfl a.s0 a.h P) hN hi Z λs9 Q=>(Zv v8 _ y ⟨Q,r8,Y⟩)
 .exact q.elim
end
section
variable{W:XW}{i:Nat}{nm:Str}{mp hpos cpos epos pos p:Pos}{af:(Rho->Sto->R (List Er))}
def Mb(G:FnOk X.prog X.w X.K X.mg X.base (Ij X.prog X.w) k fa fd ps (Ma X.g n F))(B:Room k X.A)(D:Gl X x)(o:X.mg x=some (.ref fa))(C:PySem.W.keepIn X.K (.ref fa)=true)(L:Binds X.K fd ps [])
  (ha:PA X.nox (e::es) ta) (I:↑1) (ht:ta σ H λvs j=>Ma X.g n F vs j Q E) (hx: ∀j m x v,Inv X pins σ j m->Ij X.prog X.w X.stack j m E x v->Ex x v) (hdb:(x==("__debug__"))=false)
  (he:starEach (e::es) X.env=(false,eval e X.env)::starEach es X.env) (hpl:(backTo cpos (starEach es X.env)).any (·.1)=false):
  wpAny ↑5 X.A (eval (.Call (.Name x p) (e::es) [] cpos) X.env) (EP X pins σ Q) Ex s:=by
 refine ő (vK I D o ?_ hdb);refine PySem.W.callWith_K I.ok.mod.kin C (ċ (ha cpos pins s σ H _ (I.wish _) ht) (λb m ⟨vs,j,I1,r,q⟩=>⟨I1.unwish.kIn,?_⟩) λ_ _ z=>z.elim) he hpl;have c:=I1.unwish;have J:b.length=ps.length:=by rw[<-r.length];exact G.len _ _ _ _ q
 refine wpAny_call (İ (G.run X.A X.stack m j ⟨b,[]⟩ b vs Q E B c.env0 ?_ r q) λr v a=>?_)
 .have:=L m b c.kIn (by rw[aN];exact J);rw[aN]at this;exact this
 .cases r with
  |error y=>exact hx j m y v c a
  |ok fl=>
   cases fl with
   |ret u=>exact c.after a
   |next=>exact False.elim a
   |brk=>exact False.elim a
   |cont=>exact False.elim a
def Mc{y:TA}(J: ∀α m S σ H Q,Wd X.g α S H->Slots X.K α H m σ->Post X.g W0 α H (af m S) Q->y σ H Q)(G:↑19)(sl:Slots X.K α H m σ)
  (q:PostS X.g W α H D ((noX (af m S)).bind λrs v=>YD ns i kn Fh m (qD n F rs v))) (hkn: ∀r v u j k,PostS X.g W α H D (kn r v)->Ext α H j k->Wd X.g j v k->DenE X.K H j k r u->Q u k):
  y σ H λvs k=>Ma X.g n F vs k Q (E2 X W ns i Fh m α H D):=by
 refine J α m S σ H _ G sl (q.exprX λvs rs v j k N B M E b=>YB B M E ?_)
 cases z:qD n F rs v with
 |ok r S2=>rw[z]at b;exact λu a w s o L=>hkn r S2 u a w b s o L
 |exc c fs S2=>rw[z]at b;exact λa w s o C d I A=>(Zp c fs S2 a C ⟨rfl,I,s,o,A,b⟩)
 |no=>rw[z]at b;exact b.elim
end
def xcl_mk{K:O0}
  (l:K.lookup C=some (excClassObj nm q C N bs bm hd sn sub ab col dd k0 k1 k2 k3 k5 "ValueError.__new__")) (n:K.lookup N=some ⟨oc,od,.dict es ep,sl⟩) (o:(es.toList.all λe=>match e.key with |.str _ _=>true|_=>false)=true)
  (i:PySem.W.nsIn K N "__init__"=some init) (q1:PySem.W.nsIn K N "__class__"=some none) (q2:PySem.W.nsIn K N "__getattribute__"=some none) (q3:PySem.W.nsIn K N "__getattr__"=some none)
  (q4:PySem.W.nsIn K N "__setattr__"=some none) (q5:PySem.W.nsIn K N "place"=some none) (q6:PySem.W.nsIn K N "ring"=some none) (hh:hd=true):UN K C bm init:=by
 refine⟨nm,q,N,bs,hd,sn,sub,ab,col,dd,k0,k1,k2,k3,k5,l,?_,i,λy a=>?_,hh⟩
 .unfold PySem.W.nsOkIn;rw[n];rw[Array.all_toList]at o;exact o
 .simp only[qn,mC,nM,or_false]at a;rcases a with rfl|rfl|rfl|rfl|rfl|rfl<;>assumption
end M
end L2
namespace Srt
open PySem PyProof.Rows
def Bi:Bool->Keyed->Array Keyed->Nat->Nat->Nat->StateT SortSt Sem (Option Nat):=sortPriv% PySem.Builtin.gallop
def BC:Nat->StateT SortSt Sem Unit:=sortPriv% PySem.Builtin.setMinGallop
section
def UO{st:σ}(h:Q () st):wpS M A E s (liftM (rule x)) Q st:=wpS_lift (ĩ ⟨rfl,h⟩)
end
end Srt
namespace Srt
variable{β:Type}{le:β->β->Prop}
structure Two(le:β->β->Prop)(T out xs ys:List β):Prop where
 hx:(out++xs).Pairwise le
 hy:(out++ys).Pairwise le
 pm:(out++(xs++ys)).Perm T
structure TwoR(le:β->β->Prop)(T xs ys R:List β):Prop where
 hx:(xs++R).Pairwise le
 hy:(ys++R).Pairwise le
 pm:(xs++ys++R).Perm T
end Srt
namespace Srt
open PySem PyProof.Rows
abbrev SM:=StateT SortSt Sem
section
def Tells(M:Model)(A:Around)(E:VP)(s:ř)(st:SortSt)(f:Nat->SM (Option Bool))(p:Nat->Bool)(n:Nat):Prop:=
 ∀i,i<n-> ∀Q:Option Bool->SortSt->Prop,Q (some (p i)) st->wpS M A E s (f i) Q st
end
end Srt
namespace Srt
open PySem PyProof.Rows
section
variable{M:Model}{A:Around}{E:VP}{s:ř}
structure Cmp(M:Model)(A:Around)(E:VP)(s:ř)(kd:SortKind)(D:Keyed->Prop)(lt:Keyed->Keyed->Bool):Prop where
 go: ∀x y,D x->D y-> ∀st:SortSt,kindOf st=kd-> ∀Q:Option Bool->SortSt->Prop,Q (some (lt x y)) st->wpS M A E s (lt' x y) Q st
 tr: ∀x y z,lt y x=false->lt z y=false->lt z x=false
 as: ∀x y,lt x y=true->lt y x=false
abbrev Le(lt:↑14)(x y:Keyed):Prop:=lt y x=false
def Cmp.rf(C:(Cmp M A E s kd D lt))(x):Le lt x x:=by
 show lt x x=false
 cases h:lt x x with
 |false=>rfl
 |true=>exact absurd h (by rw[C.as x x h];simp)
def SL(lt:↑14)(l:List Keyed)(b n:Nat):Prop:= ∀i j x y,i<=j->j<n->l[b+i]? =some x->l[b+j]? =some y->lt y x=false
def Bj{st:SortSt}(e:v.toList[i]? =some x)(h:Q x st):wpS M A E s (elem' v i) Q st:=by
 rw[elem'_eq];have:v[i]? =some x:=by rw[<-ø];exact e
 rw[this];exact wpS_pure h
def Xx{v:Array Keyed}(h:i<v.size): ∃x,v.toList[i]? =some x:=⟨v.toList[i]'(by simpa using h),gE _⟩
end
end Srt
namespace Srt
open PySem PyProof.Rows
abbrev V:=Array Keyed
abbrev L6:=Option V×V×Nat×Nat×Nat×Nat
abbrev L7:=Option V×V×Nat×Nat×Nat×Nat×Nat
noncomputable abbrev dnL(a b o:V)(i j:Nat):V:=o++a.extract i a.size++b.extract j b.size
noncomputable abbrev laL(a b o:V)(i j:Nat):V:=o++b.extract j b.size++a.extract i a.size
def one1(a b:V)(g:Nat)(c:L6):SM (ForInStep L6):=
 elem' b c.2.2.2.1 >>= λy=>elem' a c.2.2.1 >>= λx=>lt' y x >>= λr=>match r with
  |some q=>if q=true then elem' b c.2.2.2.1 >>= λy=>
     if(c.2.2.2.1+1==b.size)=true then pure (.done (some (dnL a b (c.2.1.push y) c.2.2.1 (c.2.2.2.1+1)),c.2.1.push y,c.2.2.1,c.2.2.2.1+1,0,c.2.2.2.2.2+1))
     else if c.2.2.2.2.2+1>=g then pure (.done (none,c.2.1.push y,c.2.2.1,c.2.2.2.1+1,0,c.2.2.2.2.2+1))
     else pure (.yield (none,c.2.1.push y,c.2.2.1,c.2.2.2.1+1,0,c.2.2.2.2.2+1))
    else elem' a c.2.2.1 >>= λx=>
     if(c.2.2.1+1+1==a.size)=true then pure (.done (some (laL a b (c.2.1.push x) (c.2.2.1+1) c.2.2.2.1),c.2.1.push x,c.2.2.1+1,c.2.2.2.1,c.2.2.2.2.1+1,0))
     else if c.2.2.2.2.1+1>=g then pure (.done (none,c.2.1.push x,c.2.2.1+1,c.2.2.2.1,c.2.2.2.2.1+1,0))
     else pure (.yield (none,c.2.1.push x,c.2.2.1+1,c.2.2.2.1,c.2.2.2.2.1+1,0))
  |_=>pure (.done (some (dnL a b c.2.1 c.2.2.1 c.2.2.2.1),c.2.1,c.2.2.1,c.2.2.2.1,c.2.2.2.2.1,c.2.2.2.2.2))
def in1(a b:V)(t g:Nat)(c:L6):SM L6:=forIn [0:t] c λ_ c=>one1 a b g c
end Srt
namespace Srt
open PySem PyProof.Rows
def Sg(st a:SortSt):Prop:= ∃g,a=SortSt.mk' (kindOf st) (arrOf st) (pendingOf st) g (failedOf st)
def Sg.refl(st):Sg st st:=⟨gallopOf st,rfl⟩
theorem Sg.kind{st:SortSt}(h:Sg st st'):kindOf st'=kindOf st:=by obtain⟨g,rfl⟩:=h;rfl
section
abbrev TwoA(lt:↑14)(a b o:V)(i j:Nat):Prop:=Two (Le lt) (a.toList++b.toList) o.toList (a.toList.drop i) (b.toList.drop j)
def FinA(lt:↑14)(a b r:V):Prop:=r.toList.Pairwise (Le lt)/\r.toList.Perm (a.toList++b.toList)
def I1(lt:↑14)(a b o:V)(i j:Nat):Prop:=i+1<a.size/\j<b.size/\TwoA lt a b o i j
def N7(lt:↑14)(a b:V)(n:Nat)(c:L7):Prop:= ∃o i j g p q,c=(none,o,i,j,g,p,q)/\I1 lt a b o i j/\n<=o.size
def P7(lt:↑14)(a b:V)(n:Nat)(c:L7):Prop:=(∃r e,c=(some r,e)/\FinA lt a b r)\/N7 lt a b n c
end
end Srt
namespace Srt
open PySem PyProof.Rows
abbrev H5:=Option V×Nat×Nat×V×Nat
abbrev H6:=Option V×Nat×Nat×V×Nat×Nat
abbrev H7:=Option V×Nat×Nat×V×Nat×Nat×Nat
noncomputable abbrev K2(a b o:V)(i j:Nat):V:=a.extract 0 i++b.extract 0 j++o.reverse
noncomputable abbrev fbH(a b o:V)(i j:Nat):V:=b.extract 0 j++a.extract 0 i++o.reverse
def hone(a b:V)(g:Nat)(c:H6):SM (ForInStep H6):=
 elem' b (c.2.2.1 - 1) >>= λy=>elem' a (c.2.1 - 1) >>= λx=>lt' y x >>= λr=>match r with
  |some q=>if q=true then elem' a (c.2.1 - 1) >>= λx=>
     if(c.2.1 - 1==0)=true then pure (.done (some (K2 a b (c.2.2.2.1.push x) (c.2.1 - 1) c.2.2.1),c.2.1 - 1,c.2.2.1,c.2.2.2.1.push x,c.2.2.2.2.1+1,0))
     else if c.2.2.2.2.1+1>=g then pure (.done (none,c.2.1 - 1,c.2.2.1,c.2.2.2.1.push x,c.2.2.2.2.1+1,0))
     else pure (.yield (none,c.2.1 - 1,c.2.2.1,c.2.2.2.1.push x,c.2.2.2.2.1+1,0))
    else elem' b (c.2.2.1 - 1) >>= λy=>
     if(c.2.2.1 - 1==1)=true then pure (.done (some (fbH a b (c.2.2.2.1.push y) c.2.1 (c.2.2.1 - 1)),c.2.1,c.2.2.1 - 1,c.2.2.2.1.push y,0,c.2.2.2.2.2+1))
     else if c.2.2.2.2.2+1>=g then pure (.done (none,c.2.1,c.2.2.1 - 1,c.2.2.2.1.push y,0,c.2.2.2.2.2+1))
     else pure (.yield (none,c.2.1,c.2.2.1 - 1,c.2.2.2.1.push y,0,c.2.2.2.2.2+1))
  |_=>pure (.done (some (K2 a b c.2.2.2.1 c.2.1 c.2.2.1),c.2.1,c.2.2.1,c.2.2.2.1,c.2.2.2.2.1,c.2.2.2.2.2))
def hin1(a b:V)(t g:Nat)(c:H6):SM H6:=forIn [0:t] c λ_ c=>hone a b g c
def hw4(a b o:V)(i j g p q:Nat):SM (ForInStep H7):=
 elem' a (i - 1) >>= λx=>if(i - 1==0)=true then pure (.done (some (K2 a b (o.push x) (i - 1) j),i - 1,j,o.push x,g,p,q))
  else if(decide (p<7)&&decide (q<7))=true then pure (.done (none,i - 1,j,o.push x,g,p,q))else pure (.yield (none,i - 1,j,o.push x,g,p,q))
def zDC(a b o:V)(i j g p q:Nat):SM (ForInStep H7):=
 elem' b (j - 1) >>= λy=>if(j - 1==1)=true then pure (.done (some (fbH a b (o.push y) i (j - 1)),i,j - 1,o.push y,g,p,q))
  else elem' a (i - 1) >>= λx=>Bi true x b 0 (j - 1) (j - 1 - 1) >>= λr=>match r with
   |some k=>if j - 1 - k>0 then
      if(k==1)=true then pure (.done (some (fbH a b (o.push y++(b.extract k (j - 1)).reverse) i k),i,k,o.push y++(b.extract k (j - 1)).reverse,g,p,j - 1 - k))
      else if(k==0)=true then pure (.done (some (K2 a b (o.push y++(b.extract k (j - 1)).reverse) i k),i,k,o.push y++(b.extract k (j - 1)).reverse,g,p,j - 1 - k))
      else hw4 a b (o.push y++(b.extract k (j - 1)).reverse) i k g p (j - 1 - k)
     else hw4 a b (o.push y) i (j - 1) g p (j - 1 - k)
   |_=>pure (.done (some (K2 a b (o.push y) i (j - 1)),i,j - 1,o.push y,g,p,q))
def Y2(a b o:V)(i j g p q:Nat):SM (ForInStep H7):=
 BC g >>= λ_=>elem' b (j - 1) >>= λy=>Bi false y a 0 i (i - 1) >>= λr=>match r with
  |some k=>if i - k>0 then
     if(k==0)=true then pure (.done (some (K2 a b (o++(a.extract k i).reverse) k j),k,j,o++(a.extract k i).reverse,g,i - k,q))
     else zDC a b (o++(a.extract k i).reverse) k j g (i - k) q
    else zDC a b o i j g (i - k) q
  |_=>pure (.done (some (K2 a b o i j),i,j,o,g,p,q))
def hin2(a b:V)(t:Nat)(c:H7):SM H7:=forIn [0:t] c λ_ c=>
 if c.2.2.2.2.1>1 then Y2 a b c.2.2.2.1 c.2.1 c.2.2.1 (c.2.2.2.2.1 - 1) c.2.2.2.2.2.1 c.2.2.2.2.2.2
 else Y2 a b c.2.2.2.1 c.2.1 c.2.2.1 c.2.2.2.2.1 c.2.2.2.2.2.1 c.2.2.2.2.2.2
def outH(a b:V)(t:Nat)(c:H5):SM H5:=forIn [0:t] c λ_ c=>
 hin1 a b t c.2.2.2.2 (none,c.2.1,c.2.2.1,c.2.2.2.1,0,0) >>= λd=>match d.1 with
  |some r=>pure (.done (some r,d.2.1,d.2.2.1,d.2.2.2.1,c.2.2.2.2))
  |none=>liftM (rule "list.sort.gallop") >>= λ_=>hin2 a b t (none,d.2.1,d.2.2.1,d.2.2.2.1,c.2.2.2.2+1,d.2.2.2.2.1,d.2.2.2.2.2) >>= λe=>match e.1 with
   |some r=>pure (.done (some r,e.2.1,e.2.2.1,e.2.2.2.1,e.2.2.2.2.1))
   |none=>BC (e.2.2.2.2.1+1) >>= λ_=>pure (.yield (none,e.2.1,e.2.2.1,e.2.2.2.1,e.2.2.2.2.1+1))
section
abbrev TwoH(lt:↑14)(a b o:V)(i j:Nat):Prop:=TwoR (Le lt) (a.toList++b.toList) (a.toList.take i) (b.toList.take j) o.toList.reverse
def J1(lt:↑14)(a b o:V)(i j:Nat):Prop:=1<=i/\i<=a.size/\2<=j/\j<=b.size/\TwoH lt a b o i j
def R6(lt:↑14)(a b:V)(n:Nat)(c:H6):Prop:= ∃i j o p q,c=(none,i,j,o,p,q)/\J1 lt a b o i j/\n<=o.size
def S6(lt:↑14)(a b:V)(n:Nat)(c:H6):Prop:=(∃r e,c=(some r,e)/\FinA lt a b r)\/R6 lt a b n c
def R7(lt:↑14)(a b:V)(n:Nat)(c:H7):Prop:= ∃i j o g p q,c=(none,i,j,o,g,p,q)/\J1 lt a b o i j/\n<=o.size
def S7(lt:↑14)(a b:V)(n:Nat)(c:H7):Prop:=(∃r e,c=(some r,e)/\FinA lt a b r)\/R7 lt a b n c
end
end Srt
namespace Srt
open PySem PyProof.Rows
abbrev C2:=Option (Option Nat)×Nat
abbrev C3:=Option (Option Nat)×Nat×Nat
def K4(lo a n:Nat):SM C2:=forIn [a:n] ((none,a):C2) λ_ c=>ltAt' (lo+c.2) (lo+c.2 - 1) >>= λo=>match o with
 |some q=>if q=true then pure (.done (none,c.2))else pure (.yield (none,c.2+1))
 |_=>pure (.done (some none,c.2))
def tl3(lo m n:Nat):SM (Option Nat):=reverseSlice' lo (lo+m) >>= λ_=>K4 lo m n >>= λc=>match c.1 with
 |some r=>pure r
 |none=>pure (some c.2)
def zBO(lo a n:Nat):SM C3:=forIn [a:n] ((none,a,0):C3) λ_ c=>ltAt' (lo+c.2.1) (lo+c.2.1 - 1) >>= λo=>match o with
 |some q=>if q=true then
    if c.2.2>0 then reverseSlice' (lo+c.2.1 - (c.2.2+1)) (lo+c.2.1) >>= λ_=>pure (.yield (none,c.2.1+1,0))else pure (.yield (none,c.2.1+1,0))
   else ltAt' (lo+c.2.1 - 1) (lo+c.2.1) >>= λo=>match o with
    |some q=>if q=true then pure (.done (none,c.2.1,c.2.2))else pure (.yield (none,c.2.1+1,c.2.2+1))
    |_=>pure (.done (some none,c.2.1,c.2.2))
 |_=>pure (.done (some none,c.2.1,c.2.2))
def K6(lo m n:Nat):SM (Option Nat):=liftM (rule "list.sort.descending-run") >>= λ_=>zBO lo (m+1) n >>= λc=>match c.1 with
 |some r=>pure r
 |none=>if c.2.2>0 then reverseSlice' (lo+c.2.1 - (c.2.2+1)) (lo+c.2.1) >>= λ_=>tl3 lo c.2.1 n else tl3 lo c.2.1 n
def cntR(lo n:Nat):SM (Option Nat):=K4 lo 1 n >>= λc=>match c.1 with
 |some r=>pure r
 |none=>if(c.2==n)=true then pure (some c.2)else if c.2>1 then ltAt' lo (lo+c.2 - 1) >>= λo=>(match o with
    |some q=>if q=true then pure (some c.2)else reverseSlice' lo (lo+c.2) >>= λ_=>K6 lo c.2 n
    |_=>pure none)
   else K6 lo c.2 n
theorem MN(lo n):countRun' lo n=cntR lo n:=by kernel_rfl
def binI(lo k:Nat):SM (Option Bool×Nat×Nat):=forIn [0:k] ((none,0,k):Option Bool×Nat×Nat) λ_ c=>
 if c.2.1>=c.2.2 then pure (.done (none,c.2.1,c.2.2))else ltAt' (lo+k) (lo+(c.2.1+c.2.2) / 2) >>= λo=>match o with
  |some q=>if q=true then pure (.yield (none,c.2.1,(c.2.1+c.2.2) / 2))else pure (.yield (none,(c.2.1+c.2.2) / 2+1,c.2.2))
  |_=>pure (.done (some false,c.2.1,c.2.2))
def zBP(lo n ok:Nat):SM Bool:=(forIn [max ok 1:n] ((none,()):Option Bool×Unit) λk _=>binI lo k >>= λc=>match c.1 with
  |some r=>pure (.done (some r,()))
  |none=>moveDown' (lo+k) (lo+c.2.1) >>= λ_=>pure (.yield (none,()))) >>= λc=>match c.1 with
 |some r=>pure r
 |none=>pure true
theorem HR(lo n ok):binarySort' lo n ok=zBP lo n ok:=by kernel_rfl
noncomputable def Kx(d:Keyed)(v:V)(i:Nat):Keyed:=(v[i]?).getD d
def tY(h:v[i]? =u[j]?):Kx d v i=Kx d u j:=by unfold Kx;rw[h]
def FF(b:j<=v.size)(k):Kx d (mirror v i j ((j - i) / 2)) k=if i<=k/\k<j then Kx d v (i+j - 1 - k)else Kx d v k:=by
 have e:=getElem?_mirror_all (i:=i) b k;by_cases a:i<=k/\k<j
 .rw[iP a]at e ⊢; exact tY e
 .rw[iN0 a]at e ⊢; exact tY e
def NV(hs:src<v.size)(c:m<=src)(k):
  Kx d (bubble v src m) k=if k=src - m then Kx d v src else if src - m<k/\k<=src then Kx d v (k - 1)else Kx d v k:=by
 have e:=getElem?_bubble hs m c k;by_cases b:k=src - m
 .rw[iP b]at e ⊢; exact tY e
 .rw[iN0 b]at e ⊢;by_cases a:src - m<k/\k<=src
  .rw[iP a]at e ⊢; exact tY e
  .rw[iN0 a]at e ⊢; exact tY e
structure SB(a₀:V)(kd:SortKind)(pd:Array (Nat×Nat×Nat))(f:V)(lo:Nat)(st:SortSt):Prop where
 pm:(arrOf st).Perm a₀
 kind:kindOf st=kd
 fl:failedOf st=none
 pd:pendingOf st=pd
 fx: ∀i,i<lo->(arrOf st)[i]? =f[i]?
section
variable{pd:Array (Nat×Nat×Nat)}{lo:Nat}{st:SortSt}
def SB.size(h:(SB a₀ kd pd f lo st)):(arrOf st).size=a₀.size:=h.pm.size_eq
theorem SB.rev(h:(SB a₀ kd pd f lo st))(hi:lo<=i)(b:j<=a₀.size):SB a₀ kd pd f lo (setArr st (mirror (arrOf st) i j ((j - i) / 2))):=
 ⟨(mirror_perm _ _ _ _).trans h.pm,h.kind,h.fl,h.pd,λk a=>by rw[getElem?_mirror_all (by rw[h.size];exact b),iN0 #[0]];exact h.fx k a⟩
theorem SB.bub(h:(SB a₀ kd pd f lo st))(hi:lo+m<=i)(b:i<a₀.size):SB a₀ kd pd f lo (setArr st (bubble (arrOf st) i m)):=
 ⟨(bubble_perm _ _ _).trans h.pm,h.kind,h.fl,h.pd,λk a=>by rw[getElem?_bubble (by rw[h.size];exact b) _ #[0],iN0 #[0],iN0 #[0]];exact h.fx k a⟩
def DH(C:(Cmp M A E s kd D lt))(h:(SB a₀ kd pd f lo st))(c:(∀x,x∈a₀.toList->D x))(hi:i<a₀.size)(q:j<a₀.size)
  (hq:Q (some (lt (Kx d (arrOf st) i) (Kx d (arrOf st) j))) st):wpS M A E s (ltAt' i j) Q st:=by
 obtain⟨x,a⟩:=Xx (by rw[h.size];exact hi);obtain⟨y,b⟩:=Xx (by rw[h.size];exact q);have o:=(Array.perm_iff_toList_perm.mp h.pm).mem_iff.mp (ë a);have k:=(Array.perm_iff_toList_perm.mp h.pm).mem_iff.mp (ë b);have u:Kx d (arrOf st) i=x:=by unfold Kx;rw[<-ø,a];rfl
 have m:Kx d (arrOf st) j=y:=by unfold Kx;rw[<-ø,b];rfl
 rw[u,m]at hq;refine wpS_bind (wpS_get ?_);exact wpS_bind (Bj a (wpS_bind (Bj b (C.go x y (c x o) (c y k) st h.kind _ hq))))
def QR(h:Q () (setArr st (mirror (arrOf st) i j ((j - i) / 2)))):wpS M A E s (reverseSlice' i j) Q st:=by rw[reverseSlice'_eq];exact wpS_modify h
def Up(lt:↑14)(d:Keyed)(v:V)(lo n:Nat):Prop:= ∀i j,i<=j->j<n->Le lt (Kx d v (lo+i)) (Kx d v (lo+j))
def Dn(lt:↑14)(d:Keyed)(v:V)(lo n:Nat):Prop:= ∀i j,i<=j->j<n->Le lt (Kx d v (lo+j)) (Kx d v (lo+i))
theorem Up.step(C:(Cmp M A E s kd D lt))(hs:Up lt d v lo x)(q:1<=x)(m:lt (Kx d v (lo+x)) (Kx d v (lo+x - 1))=false):Up lt d v lo (x+1):=by
 intro i j k o;by_cases b:j<x
 .exact hs i j k b
 .have a:j=x:=by lia
  subst a;by_cases c:i=j
  .subst c;exact C.rf _
  .have:=hs i (j - 1) #[0] #[0];rw[show lo+(j - 1)=lo+j - 1 by lia]at this;exact C.tr _ _ _ this m
theorem Bl(C:(Cmp M A E s kd D lt))(u:(∀x,x∈a₀.toList->D x))(h:(SB a₀ kd pd f lo st))(w:lo+n<=a₀.size)(y:1<=a)(k:a<=n)(hs:Up lt d (arrOf st) lo a)
  (hq: ∀m,a<=m->m<=n->Up lt d (arrOf st) lo m->(m=n\/lt (Kx d (arrOf st) (lo+m)) (Kx d (arrOf st) (lo+m - 1))=true)->Q (none,m) st):wpS M A E s (K4 lo a n) Q st:=by
 refine wpS_forRange (I:=λx c j=>j=st/\c=(none,x)/\Up lt d _ lo x) ?_ ?_ ⟨rfl,rfl,hs⟩
 .rintro x c j o v ⟨rfl,rfl,b⟩;refine wpS_bind (DH (d:=d) C h u #[0] #[0] ?_)
  cases q:lt _ _ with
  |true=>exact wpS_pure (hq x o #[0] b (.inr q))
  |false=>exact wpS_pure ⟨rfl,rfl,b.step C #[0] q⟩
 .rintro c j ⟨rfl,rfl,b⟩;rw[show max a n=n by lia]at b ⊢;exact hq n k (à _) b (.inl rfl)
theorem Up.of_mirror(h:(SB a₀ kd pd f lo st))(a:lo+m<=a₀.size)(hs:Dn lt d (arrOf st) lo m):Up lt d (mirror (arrOf st) lo (lo+m) ((lo+m - lo) / 2)) lo m:=by intro i j b c;rw[FF (by rw[h.size];exact a),FF (by rw[h.size];exact a),iP #[0],iP #[0]];have:=hs (m - 1 - j) (m - 1 - i) (by omega) (by omega);rw[show lo+(m - 1 - j)=lo+(lo+m) - 1 - (lo+j) by omega,show lo+_=lo+(lo+m) - 1 - (lo+i) by omega]at this;exact this
theorem Md(C:(Cmp M A E s kd D lt))(o:(∀x,x∈a₀.toList->D x))(h:(SB a₀ kd pd f lo st))(a:lo+n<=a₀.size)(b:1<=m)(c:m<=n)(hs:Dn lt d (arrOf st) lo m)
  (hq: ∀m q,SB a₀ kd pd f lo q->1<=m->m<=n->Up lt d (arrOf q) lo m->Q (some m) q):wpS M A E s (tl3 lo m n) Q st:=by
 refine wpS_bind (QR ?_);have h':=h.rev (j:=lo+m) (à _) #[0];exact wpS_bind (Bl C o h' a b c (Up.of_mirror h #[0] hs) λk w u v _=>wpS_pure (hq k _ h' #[0] u v))
def zBQ(lt:↑14)(d:Keyed)(v:V)(i j:Nat):Prop:= ∀k l,i<=k->k<j->i<=l->l<j->Le lt (Kx d v k) (Kx d v l)
def Dn.mirror(C:(Cmp M A E s kd D lt))(h:(SB a₀ kd pd f lo st))(m:j<=a₀.size)(c:zBQ lt d (arrOf st) i j)(hs:Dn lt d (arrOf st) lo n):Dn lt d (mirror (arrOf st) i j ((j - i) / 2)) lo n:=by
 have a: ∀k,Le lt (Kx d (PyProof.Rows.mirror (arrOf st) i j ((j - i) / 2)) k) (Kx d (arrOf st) k)/\Le lt (Kx d (arrOf st) k) (Kx d (PyProof.Rows.mirror (arrOf st) i j ((j - i) / 2)) k):=by
  intro k;rw[FF (by rw[h.size];exact m)];split
  .exact⟨c _ _ (by omega) (by omega) (by omega) (by omega),c _ _ (by omega) (by omega) (by omega) (by omega)⟩
  .exact⟨C.rf _,C.rf _⟩
 intro p q b o;exact C.tr _ _ _ (a _).1 (C.tr _ _ _ (hs p q b o) (a _).2)
theorem Ti(C:(Cmp M A E s kd D lt))(P:(∀x,x∈a₀.toList->D x))(h:(SB a₀ kd pd f lo st))(hn:lo+n<=a₀.size)(L:1<=a)(H:a<=n)(hs:Dn lt d (arrOf st) lo a)
  (hq: ∀m e q,SB a₀ kd pd f lo q->a<=m->m<=n->Dn lt d (arrOf q) lo m->e+1<=m->zBQ lt d (arrOf q) (lo+m - (e+1)) (lo+m)->Q (none,m,e) q):wpS M A E s (zBO lo a n) Q st:=by
 refine wpS_forRange (I:=λx c q=> ∃e,c=(none,x,e)/\SB a₀ kd pd f lo q/\Dn lt d (arrOf q) lo x/\e+1<=x/\zBQ lt d (arrOf q) (lo+x - (e+1)) (lo+x)) ?_ ?_
  ⟨0,rfl,h,hs,(by omega),(λk l L U W T=>by rw[show k=l by lia];exact C.rf _)⟩
 .rintro x c q J Z ⟨e,rfl,u,b,o,w⟩;have one: ∀v:V,zBQ lt d v (lo+(x+1) - (0+1)) (lo+(x+1)):=λv k l L U W T=>by rw[show k=l by lia];exact C.rf _
  refine wpS_bind (DH (d:=d) C u P #[0] #[0] ?_)
  cases O:lt _ _ with
  |true=>
   have K:Dn lt d (arrOf q) lo (x+1):=by
    intro i j G Y;by_cases y:j<x
    .exact b i j G y
    .have B:j=x:=by lia
     subst B;by_cases F:i=j
     .subst F;exact C.rf _
     .have:=b i (j - 1) #[0] #[0];rw[show lo+_=lo+j - 1 by lia]at this;exact C.tr _ _ _ (C.as _ _ O) this
   dsimp only;rw[iP rfl];by_cases S:e>0
   .rw[iP S];refine wpS_bind (QR (wpS_pure ⟨0,rfl,u.rev #[0] #[0],K.mirror C u #[0] w,(by lia),one _⟩))
   .rw[iN0 S];exact wpS_pure ⟨0,rfl,u,K,(by lia),one _⟩
  |false=>
   dsimp only;(rw[iN0 (by simp)]);refine wpS_bind (DH (d:=d) C u P #[0] #[0] ?_)
   cases N:lt _ _ with
   |true=>exact wpS_pure (hq x e q u J #[0] b o w)
   |false=>
    refine wpS_pure ⟨_,rfl,u,(λi j G Y=>?_),(by lia),(λk l k1 k2 k3 k4=>?_)⟩
    .by_cases y:j<x
     .exact b i j G y
     .have B:j=x:=by lia
      subst B;by_cases F:i=j
      .subst F;exact C.rf _
      .have:=b i (j - 1) #[0] #[0];rw[show lo+_=lo+j - 1 by lia]at this;exact C.tr _ _ _ N this
    .by_cases X:k=lo+x
     .subst X;by_cases cl:l=lo+x
      .subst cl;exact C.rf _
      .exact C.tr _ _ _ N (w _ _ #[0] #[0] #[0] #[0])
     .by_cases cl:l=lo+x
      .subst cl;exact C.tr _ _ _ (w k _ #[0] #[0] #[0] #[0]) O
      .exact w _ _ #[0] #[0] #[0] #[0]
 .rintro c q ⟨e,rfl,u,b,o,w⟩;rw[show max a n=n by lia]at b o w ⊢;exact hq n e q u H (à _) b o w
theorem Bm(C:(Cmp M A E s kd D lt))(b:(∀x,x∈a₀.toList->D x))(h:(SB a₀ kd pd f lo st))(a:lo+n<=a₀.size)(v:m+1<=n)(hs:Dn lt d (arrOf st) lo (m+1))
  (hq: ∀m j,SB a₀ kd pd f lo j->1<=m->m<=n->Up lt d (arrOf j) lo m->Q (some m) j):wpS M A E s (K6 lo m n) Q st:=by
 refine wpS_bind (UO ?_);refine wpS_bind (Ti C b h a #[0] v hs λk e j c B o q y w=>?_);by_cases u:e>0
 .rw[iP u];exact wpS_bind (QR (Md C b (c.rev #[0] #[0]) a #[0] o (q.mirror C c #[0] w) hq))
 .rw[iN0 u];exact Md C b c a #[0] o q hq
theorem Tj(C:(Cmp M A E s kd D lt))(o:(∀x,x∈a₀.toList->D x))(h:(SB a₀ kd pd f lo st))(y:lo+n<=a₀.size)(L:1<=n)
  (hq: ∀m q,SB a₀ kd pd f lo q->1<=m->m<=n->Up lt d (arrOf q) lo m->Q (some m) q):wpS M A E s (countRun' lo n) Q st:=by
 rw[MN];refine wpS_bind (Bl (d:=d) C o h y (à 1) L (λi j c I=>by rw[show i=j by lia];exact C.rf _) λm F H hs u=>?_);by_cases v:m=n
 .rw[iP (by simpa using v)];exact wpS_pure (hq m st h F H hs)
 .rw[iN0 (by simpa using v)];have b:=u.resolve_left v;by_cases G:m>1
  .rw[iP G];refine wpS_bind (DH (d:=d) C h o #[0] #[0] ?_)
   cases K:lt _ _ with
   |true=>exact wpS_pure (hq m st h F H hs)
   |false=>
    have all:zBQ lt d (arrOf st) lo (lo+m):=by intro k l S U T P;have B:=hs 0 (l - lo) #[0] #[0];have J:=hs (k - lo) (m - 1) #[0] #[0];rw[show lo+0=lo by lia,show lo+_=l by lia]at B;rw[show lo+_=k by lia,show lo+_=lo+m - 1 by lia]at J;exact C.tr _ _ _ J (C.tr _ _ _ K B)
    have N:Dn lt d (arrOf st) lo (m+1):=by
     intro i j c I;by_cases O:j<m
     .exact all _ _ #[0] #[0] #[0] #[0]
     .have w:j=m:=by lia
      subst w;by_cases a:i=j
      .subst a;exact C.rf _
      .exact C.tr _ _ _ (C.as _ _ b) (all _ _ #[0] #[0] #[0] #[0])
    dsimp only;exact wpS_bind (QR (Bm C o (h.rev (à _) #[0]) y #[0] (N.mirror C h #[0] all) hq))
  .rw[iN0 G];have:m=1:=by lia
   subst this;refine Bm C o h y #[0] (λi j c I=>?_) hq;by_cases a:i=j
   .subst a;exact C.rf _
   .rw[show i=0 by lia,show j=1 by lia];exact C.as _ _ b
theorem Tl(C:(Cmp M A E s kd D lt))(X:(∀x,x∈a₀.toList->D x))(h:(SB a₀ kd pd f lo st))(Y:lo+n<=a₀.size)(U:ok<=n)(hs:Up lt d (arrOf st) lo ok)
  (hq: ∀m,SB a₀ kd pd f lo m->Up lt d (arrOf m) lo n->Q true m):wpS M A E s (binarySort' lo n ok) Q st:=by
 rw[HR];unfold zBP
 refine wpS_bind (wpS_mono (wpS_forRange (I:=λk c m=>c=(none,())/\SB a₀ kd pd f lo m/\Up lt d (arrOf m) lo (min k n))
  (Q:=λc m=>c=(none,())/\SB a₀ kd pd f lo m/\Up lt d (arrOf m) lo n) ?_ ?_ ?_) ?_)
 .rintro k c m P S ⟨rfl,u,a⟩;rw[show min k n=k by lia]at a;unfold binI
  refine wpS_bind (wpS_mono (wpS_forRange (I:=λx c b=>b=m/\ ∃l r,c=(none,l,r)/\l<=r/\r<=k/\r - l<=k - x/\
    (∀i,i<l->Le lt (Kx d (arrOf m) (lo+i)) (Kx d (arrOf m) (lo+k)))/\(∀i,r<=i->i<k->Le lt (Kx d (arrOf m) (lo+k)) (Kx d (arrOf m) (lo+i))))
   (Q:=λc b=>b=m/\ ∃l r,c=(none,l,r)/\l<=k/\
    (∀i,i<l->Le lt (Kx d (arrOf m) (lo+i)) (Kx d (arrOf m) (lo+k)))/\(∀i,l<=i->i<k->Le lt (Kx d (arrOf m) (lo+k)) (Kx d (arrOf m) (lo+i)))) ?_ ?_ ?_) ?_)
  .rintro x c b _ L ⟨rfl,l,r,rfl,H,v,N,o,q⟩;dsimp only;by_cases y:l>=r
   .rw[iP y];have:l=r:=by lia
    subst this;exact wpS_pure ⟨rfl,l,l,rfl,v,o,q⟩
   .rw[iN0 y];refine wpS_bind (DH (d:=d) C u X #[0] #[0] ?_)
    cases K:lt _ _ with
    |true=>exact wpS_pure ⟨rfl,l,_,rfl,by lia,by lia,by lia,o,λi G J=>C.tr _ _ _ (C.as _ _ K) (a _ _ G J)⟩
    |false=>exact wpS_pure ⟨rfl,_,r,rfl,by lia,by lia,by lia,λi G=>C.tr _ _ _ (a i _ #[0] #[0]) K,q⟩
  .rintro c b ⟨rfl,l,r,rfl,H,v,N,o,q⟩;have:l=r:=by lia
   subst this;exact⟨rfl,l,l,rfl,v,o,q⟩
  .exact⟨rfl,0,k,rfl,by lia,by lia,by lia,λi hi=>by lia,λi G J=>by lia⟩
  .rintro c b ⟨rfl,l,r,rfl,T,o,q⟩;dsimp only;rw[moveDown'_eq];have F:lo+k<(arrOf b).size:=by rw[u.size];lia
   refine wpS_bind (wpS_modify (wpS_pure ⟨rfl,?_,?_⟩))
   .exact u.bub #[0] #[0]
   .rw[show min _ n=k+1 by lia];intro i j B W;show Le lt _ _;rw[NV F #[0],NV F #[0],show lo+k - _=lo+l by lia];have w: ∀i,1<=i->lo+i - 1=lo+(i - 1):=λi hi=>by lia
    repeat' split
    all_goals first
     |(exfalso;lia)
     |exact C.rf _
     |exact o _ #[0]
     |(rw[w _ #[0]];exact q _ #[0] #[0])
     |exact q _ #[0] #[0]
     |exact a _ _ #[0] #[0]
     |(rw[w i #[0]];exact a _ _ #[0] #[0])
     |(rw[w j #[0]];exact a _ _ #[0] #[0])
     |(rw[w i #[0],w j #[0]];exact a _ _ #[0] #[0])
     |(rw[w i #[0]];exact o _ #[0])
 .rintro c m ⟨O,u,a⟩;refine⟨O,u,?_⟩;rwa [show min _ n=n by lia]at a
 .refine⟨rfl,h,λi j B W=>?_⟩;by_cases G:ok=0
  .rw[show i=j by lia];exact C.rf _
  .exact hs i j B #[0]
 .rintro c m ⟨rfl,u,a⟩;exact wpS_pure (hq m u a)
end
end Srt
namespace Srt
open PySem PyProof.Rows
section
variable{kd:SortKind}{lt:↑14}{a₀:V}{pd:Array (Nat×Nat×Nat)}{lo:Nat}{st:SortSt}
def Up.sl(h:Up lt d v lo n):SL lt v.toList lo n:=by
 intro i j x y k a o m;have b:Kx d v (lo+i)=x:=by unfold Kx;rw[<-ø,o];rfl
 have c:Kx d v (lo+j)=y:=by unfold Kx;rw[<-ø,m];rfl
 have:=h i j k a;rw[b,c]at this;exact this
theorem SL.pw(h:SL lt l lo n):((l.drop lo).take n).Pairwise (Le lt):=by rw[List.pairwise_iff_getElem];intro i j hi a b;rw[lT]at hi a;rw[getElem_take,getElem_take,getElem_drop,getElem_drop];exact h i j _ _ #[0] #[0] (gE _) (gE _)
structure Out(a₀:V)(kd:SortKind)(lt:Keyed->Keyed->Bool)(n:Nat)(st:SortSt):Prop where
 pm:(arrOf st).toList.Perm a₀.toList
 kind:kindOf st=kd
 fl:failedOf st=none
 pd: ∃w,pendingOf st=#[(0,n,w)]
 so:(arrOf st).toList.Pairwise (Le lt)
end
end Srt
namespace Srt
open PySem PyProof.Rows
abbrev U2:=Option Unit×Nat
abbrev U1:=Option Unit×Unit
def psh(lo n:Nat):SM (ForInStep U2):=(modify λs=>setPending s ((pendingOf s).push (lo,n,0))) >>= λ_=>pure (.yield (none,lo+n))
def nxt(N lo n:Nat):SM (ForInStep U2):=get >>= λst=>match (pendingOf st).back? with
 |some (a,b,_)=>(forIn [0:N] ((none,()):U1) λ_ _=>get >>= λst=>(match (if(pendingOf st).size>1 then(pendingOf st)[(pendingOf st).size - 2]? else none)with
   |some (_,_,z)=>if z<=power' N (2 * a+b) (2 * a+b+b+n) N then pure (.done (none,()))else mergeAt' ((pendingOf st).size - 2) >>= λq=>if(!q)=true then pure (.done (some (),()))else pure (.yield (none,()))
   |_=>pure (.done (none,())))) >>= λc=>(match c.1 with
  |some r=>pure (.done (some r,lo))
  |none=>(modify λs=>setPending s ((pendingOf s).modify ((pendingOf s).size - 1) λ(u,v,_)=>(u,v,power' N (2 * a+b) (2 * a+b+b+n) N))) >>= λ_=>psh lo n)
 |_=>psh lo n
def runs(N r:Nat):SM U2:=forIn [0:N] ((none,0):U2) λ_ c=>if c.2>=N then pure (.done (none,c.2))else countRun' c.2 (N - c.2) >>= λo=>match o with
 |some m=>if m<r then liftM (rule "list.sort.binary-insertion") >>= λ_=>binarySort' c.2 (min (N - c.2) r) m >>= λq=>if(!q)=true then pure (.done (some (),c.2))else nxt N c.2 (min (N - c.2) r)
   else nxt N c.2 m
 |_=>pure (.done (some (),c.2))
def zBR(N:Nat):SM U1:=forIn [0:N] ((none,()):U1) λ_ _=>get >>= λst=>if(pendingOf st).size<=1 then pure (.done (none,()))else
 mergeAt' (if Option.any (λx=>decide (x<((pendingOf st)[(pendingOf st).size - 2+1]?).elim 0 λx=>x.2.1)) (if(pendingOf st).size - 2>0 then Option.map (λx=>x.2.1) (pendingOf st)[(pendingOf st).size - 2 - 1]? else none)=true
  then(pendingOf st).size - 2 - 1 else(pendingOf st).size - 2) >>= λq=>if(!q)=true then pure (.done (some (),()))else pure (.yield (none,()))
def sRun:SM Unit:=get >>= λst=>runs (arrOf st).size (minRun' (arrOf st).size (arrOf st).size 0) >>= λc=>match c.1 with
 |some r=>pure r
 |none=>zBR (arrOf st).size >>= λc=>match c.1 with
  |some r=>pure r
  |none=>pure ()
section
variable{pd:Array (Nat×Nat×Nat)}{lo:Nat}{st:SortSt}
theorem SB.free(h:(SB a₀ kd pd f lo st))(g):SB a₀ kd pd' g 0 (setPending st pd'):=⟨h.pm,h.kind,h.fl,rfl,λ_ hi=>by lia⟩
def zDD(a₀:V)(lt:↑14)(st:SortSt):Prop:=(arrOf st).toList.Perm a₀.toList/\failedOf st=none/\(arrOf st).toList.Pairwise (Le lt)
end
end Srt
namespace Srt
open PySem PyProof.Rows
section
variable{st:SortSt}
theorem Me(a:2<=N)(h:N<64):minRun' N N 0=N:=by
 obtain⟨g,rfl⟩: ∃g,N=g+1:=⟨N - 1,by lia⟩
 rw[minRun'_succ,iP h]
def zDE(a₀:V)(kd:SortKind)(lt:↑14)(st:SortSt):Prop:=SB a₀ kd #[(0,a₀.size,0)] a₀ 0 st/\SL lt (arrOf st).toList 0 a₀.size
theorem Mf(C:(Cmp M A E s kd D lt))(F:(∀x,x∈a₀.toList->D x))(d:Keyed)(P:2<=a₀.size)(h:SB a₀ kd #[] a₀ 0 st)
  (hq: ∀j,zDE a₀ kd lt j->Q (none,a₀.size) j):wpS M A E s (runs a₀.size a₀.size) Q st:=by
 refine wpS_forRange (I:=λx c j=>(x=0/\c=_/\SB a₀ kd #[] a₀ 0 j)\/(1<=x/\c=(none,a₀.size)/\zDE a₀ kd lt j)) ?_ ?_ (.inl ⟨rfl,rfl,h⟩)
 .rintro x c j _ G (⟨rfl,rfl,K⟩|⟨O,rfl,v⟩)
  .dsimp only;rw[iN0 #[0]]
   have B: ∀a,SB a₀ kd #[] a₀ 0 a->Up lt d (arrOf a) 0 a₀.size-> ∀R:ForInStep U2->SortSt->Prop,(∀j,zDE a₀ kd lt j->R (.yield (none,a₀.size)) j)->wpS M A E s (nxt a₀.size 0 a₀.size) R a:=by
    intro a b k R J;refine wpS_bind (wpS_get ?_);have L:(pendingOf a).back? =none:=by rw[b.pd];rfl
    rw[L];dsimp only;refine (wpS_bind (wpS_modify (wpS_pure ?_)));have e:(pendingOf a).push (0,a₀.size,0)=#[(0,a₀.size,0)]:=by rw[b.pd];rfl
    rw[e,Ĳ];exact J _ ⟨b.free a₀,k.sl⟩
   refine wpS_bind (Tj (d:=d) C F K #[0] #[0] λm a b N H k=>?_);dsimp only;by_cases y:m<a₀.size
   .rw[iP y];refine wpS_bind (UO ?_);rw[Nat.sub_zero,Nat.min_self];refine wpS_bind (Tl C F b #[0] #[0] k λo w u=>?_);(rw[iN0 (by simp)]);exact B o w u _ λ_ q=>.inr ⟨by lia,rfl,q⟩
   .rw[iN0 y];obtain rfl:m=a₀.size:=by lia
    exact B a b k _ λ_ q=>.inr ⟨by lia,rfl,q⟩
  .dsimp only;rw[iP (à _)];exact wpS_pure (hq j v)
 .rintro c j (⟨G,_⟩|⟨_,rfl,v⟩)
  .lia
  .exact hq j v
theorem Mg(k:2<=a₀.size)(h:zDE a₀ kd lt st)(a: ∀j,zDD a₀ lt j->Q (none,()) j):wpS M A E s (zBR a₀.size) Q st:=by
 have b:zDD a₀ lt st:=⟨Array.perm_iff_toList_perm.mp h.1.pm,h.1.fl,by have:=h.2.pw;rwa [List.drop_zero,Ŕ (by rw[á,h.1.size];lia)]at this⟩
 refine wpS_forRange (I:=λ_ c j=>c=_/\j=st) ?_ ?_ ⟨rfl,rfl⟩
 .rintro x c j _ _ ⟨rfl,rfl⟩;refine wpS_bind (wpS_get ?_);rw[iP (by rw[h.1.pd];simp)];exact wpS_pure (a _ b)
 .rintro c j ⟨rfl,rfl⟩;exact a _ b
theorem QS(C:(Cmp M A E s kd D lt))(u: ∀x,x∈(arrOf st).toList->D x)(d:Keyed)(b:2<=(arrOf st).size)(c:(arrOf st).size<64)(k:kindOf st=kd)(q:pendingOf st=#[])(m:failedOf st=none)
   (hq: ∀j,zDD (arrOf st) lt j->Q () j):wpS M A E s sortRuns' Q st:=by
 rw[(show sortRuns'=sRun by kernel_rfl)];refine wpS_bind (wpS_get ?_);rw[Me b c];refine wpS_bind (Mf C u d b ⟨Array.Perm.refl _,k,m,q,λ_ hi=>by lia⟩ λv o=>?_);refine wpS_bind (Mg b o λa w=>?_);exact wpS_pure (hq a w)
end
end Srt
namespace Srt
open PySem PyProof.Rows
abbrev Rn:=Nat×Nat×Nat
def RunsOk(lt:↑14)(l:List Keyed):Nat->List Rn->Nat->Prop
 |p,[],q=>p=q
 |p,r::rs,q=>r.1=p/\1<=r.2.1/\SL lt l p r.2.1/\RunsOk lt l (p+r.2.1) rs q
section
theorem RunsOk.le: ∀{rs}{p q},RunsOk lt l p rs q->p+↑9<=q
 |[],p,q,h=>by cases h;exact à _
 |r::rs,p,q,h=>by
  have:=RunsOk.le h.2.2.2;have:=h.2.1;rw[lC0]
  lia
end
section
variable{kd:SortKind}{lt:↑14}{a₀:V}{st:SortSt}
structure ST(a₀:V)(kd:SortKind)(lt:Keyed->Keyed->Bool)(rs:List Rn)(q:Nat)(st:SortSt):Prop where
 pm:(arrOf st).toList.Perm a₀.toList
 kind:kindOf st=kd
 fl:failedOf st=none
 pd:pendingOf st=rs.toArray
 ok:RunsOk lt (arrOf st).toList 0 rs q
 le:q<=a₀.size
def ST.size(h:ST a₀ kd lt rs q st):(arrOf st).size=a₀.size:=by have:=h.pm.length_eq;simpa using this
end
end Srt
namespace Srt
open PySem PyProof.Rows
section
def UP{α:Type}{f:α->Sem β}{g:α->β}{l:List α}(h: ∀x,x∈l->wpAny M A (f x) (λr j=>j=s/\r=g x) E s):wpAny M A (l.toArray.mapM f) (λr j=>j=s/\r=(l.map g).toArray) E s:=by rw[List.mapM_toArray];refine wB (ċ ((show wpAny M A (l.mapM f) (λr j=>j=s/\r=l.map g) E s by
  induction l with
  |nil=>rw[List.mapM_nil];exact wP ⟨rfl,rfl⟩
  |cons x l ih=>
   rw[List.mapM_cons];refine wB (ċ (h x mF0) (λr j a=>?_) λ_ _ e=>e);rw[a.1,a.2];refine wB (ċ (ih λy b=>h y (mO _ b)) (λr j a=>?_) λ_ _ e=>e);rw[a.1,a.2];exact wP ⟨rfl,rfl⟩)) (λr j a=>?_) λ_ _ e=>e);obtain⟨rfl,rfl⟩:=a;exact wP ⟨rfl,rfl⟩
def TupAt(h:Heap)(a:Addr)(b:A0):Prop:= ∃o n,h.get? a=some o/\o.cls=.type "tuple"/\o.data=.seq b.toArray n
end
end Srt
namespace Srt
open PySem PyProof.Rows
inductive LexS(A:Around)(s:ř):List Ś->List Ś->Bool->Prop
 |nn:LexS A s [] [] false
 |nc (x xs):LexS A s [] (x::xs) true
 |cn (y ys):LexS A s (y::ys) [] false
 |eq {y x ys xs k}:SeqAt.EqAt A s y x true->LexS A s ys xs k->LexS A s (y::ys) (x::xs) k
 |ne {y x ys xs k}:SeqAt.EqAt A s y x false->(∀(prog:ś)(w:World)(E Q:VP),Q (.bool k) s->wpAny (model prog w) A (richCompare .Lt y x) Q E s)->LexS A s (y::ys) (x::xs) k
section
def wp_lt{st:SortSt}(a:kindOf st=kd)(h: ∀ E  Q ,Q k s->wpAny ↑3 A (keyLt' kd x.1 y.1) Q E s)(b:Q (some k) st):
  wpS ↑3 A E s (lt' x y) Q st:=by
 rw[lt'_eq];refine wpS_bind (wpS_get ?_);rw[a];refine wpS_bind (wpS_lift (wpAny_attempt (h _ _ ⟨rfl,?_⟩)));exact wpS_pure b
end
end Srt
namespace Srt
open PySem PyProof.Rows
section
theorem Mi(vs ws)(i)(a:LexS A s vs ws k):1<=i->(vs.length)+n=ws.length+m->
   wpAny ↑3 A (forIn ((vs.zip ws).zipIdx i) ((none,())) λz _=>eqBool z.1.1 z.1.2 >>= λe=>if(!e)=true then oneLt' (true&&z.2==0) z.1.1 z.1.2 >>= λr=>pure (.done (some r,()))else pure (.yield (none,())))
    (λr j=>j=s/\(r=(some k,())\/(r=(none,())/\k=decide (m<n)))) E s:=by
 induction a generalizing i with
 |nn=>intro hi h;rw[zip_nil_left,zipIdx_nil];exact wP ⟨rfl,.inr ⟨rfl,(dF0 (by simp at h;lia)).symm⟩⟩
 |nc x xs=>intro hi h;rw[zip_nil_left,zipIdx_nil];exact wP ⟨rfl,.inr ⟨rfl,(dT0 (by simp at h;lia)).symm⟩⟩
 |cn y ys=>intro hi h;rw[List.zip_nil_right,zipIdx_nil];exact wP ⟨rfl,.inr ⟨rfl,(dF0 (by simp at h;lia)).symm⟩⟩
 |eq he hr ih=>
  intro hi h;rw[Ī,List.zipIdx_cons,forIn_cons];refine wB (wB (he prog w E _ ?_));exact wP (ih _ #[0] (by simpa using(by simp at h;lia)))
 |ne he hr=>
  intro hi h;refine wB (wB (he prog w E _ ?_));simp only[Bool.true_and];rw[show(i==0)=false by simp;lia];refine wB (wB (hr prog w E _ ((ĉ ?_))));exact wP (wP ⟨rfl,.inl rfl⟩)
end
end Srt
namespace Srt
open PySem PyProof.Rows
section
def sort_plainS{vs:A0}(v:s.heap.get? a=some (seqObj "list" (vs.toArray) n0))(hl:(vs.length)<64)
  (hk: ∀j:ř,j={s with heap:=((s.heap.update a (Obj.mapSeq λ_=>#[])).push (seqObj "tuple" (vs.toArray) 0)).push (seqObj "list" #[] 0)}-> ∃(kd:SortKind)(D:Keyed->Prop)(lt:↑14),
   (2<=(vs.length)->wpAny ↑3 A (keyKind' (vs.toArray)) (λk N=>N=j/\k=kd) E j/\Cmp ↑3 A E j kd D lt/\ ∀p,p∈vs.zip vs->D p)/\
   ∀out:List Keyed,out.Perm (vs.zip vs)->out.Pairwise (Le lt)->P (.done (.ret .none)) {j with heap:=j.heap.update a (Obj.mapSeq λ_=>(out.map (·.2)).toArray)}):
  wpAny ↑3 A (Builtin.«list.sort» ⟨[.ref a],[]⟩) P E s:=by
 unfold Builtin.«list.sort»;dsimp only;rw[iN0 (by simp),iN0 (by simp)];rw[List.forIn_nil];rw[21];have e1:List.lookup (Str.ofString "key") ([]:List (Str×Ś))=none:=rfl;have W:List.lookup (Str.ofString "reverse") ([]:List (Str×Ś))=none:=rfl;rw[e1,W];rw[21];have ha:a<s.heap.objs.size:=â v;refine wB (listItems_at v rfl ?_);refine wB (listUpdate_at v rfl ?_);obtain⟨q,H⟩: ∃q,(s.heap.update a (Obj.mapSeq λ_=>#[])).get? a=some (seqObj "list" #[] q):=⟨_,get?_update_seq v (λ_=>#[])⟩
 dsimp only;refine wB (seqEpoch_at H rfl ?_);refine wB (wpAny_newTuple ?_);refine wB (wpAny_newList ?_);refine û ?_;(rw[iN0 (by simp)]);dsimp only;generalize o:({s with heap:=((s.heap.update a (Obj.mapSeq λ_=>#[])).push (seqObj "tuple" (vs.toArray) 0)).push (seqObj "list" #[] 0)}:ř)=j;have I:j.heap.get? a=some (seqObj "list" #[] q):=by rw[<-o];exact hP0 _ (hP0 _ H)
 refine(hk j o.symm).n λkd D lt U S=>?_;(rw[iN0 (by simp)]);rw[21];(rw[iN0 (by simp)])
 have u: ∀st:SortSt,failedOf st=none->(arrOf st).toList.Perm (vs.zip vs)->(arrOf st).toList.Pairwise (Le lt)->
   wpAny ↑3 A (do
    let e <-seqEpoch a
    Builtin.List.listUpdate (.ref a) λ_=>(arrOf st).map (·.2)
    if(e !=q)=true then rule "list.sort.modified" >>= λ_=>raiseErrorWords "ValueError" "list modified during sort" >>= λ(_:Unit)=>ret .none else ret .none) P E j:=by
  intro st hf m hs;refine wB (seqEpoch_at I rfl ?_);have G:((arrOf st).map (·.2)).size<=sizeLine+1:=by rw[Array.size_map, <-á,m.length_eq,length_zip];have:=ý;omega
  refine wB (listUpdate_at I rfl ?_);(rw[iN0 (by simp)]);have M:(arrOf st).map (·.2)=((arrOf st).toList.map (·.2)).toArray:=by rw[<-Array.toList_map]
  rw[M];exact wP (S _ m hs)
 by_cases b:vs.toArray.size<2
 .rw[iP b,iP b];rw[21];rw[StateT.run_pure];rw[21];(rw[iN0 (by simp)]);have T:(vs.zip vs).length<=1:=by rw[length_zip];simp at b;omega
  refine u _ rfl ?_ ?_
  .show(vs.toArray.zip (vs.toArray)).toList.Perm _;simp
  .show(vs.toArray.zip (vs.toArray)).toList.Pairwise _;have:(vs.toArray.zip (vs.toArray)).toList=vs.zip vs:=by simp
   rw[this]
   match vs.zip vs,T with
   |[],_=>exact .nil
   |[x],_=>exact pairwise_singleton _ _
   |x::y::r,h=>simp at h
 .rw[iN0 b,iN0 b];refine(U (by simp at b;omega)).f λO k2 Y=>?_;refine wB (ċ O (λk N C=>?_) λ_ _ e=>e);obtain⟨rfl,rfl⟩:=C;have B:(arrOf (SortSt.mk' k (vs.toArray.zip (vs.toArray)) #[] 7 none)).toList=vs.zip vs:=by show(vs.toArray.zip (vs.toArray)).toList=_;simp
  have zs:(arrOf (SortSt.mk' k (vs.toArray.zip (vs.toArray)) #[] 7 none)).size=vs.length:=by rw[<-á,B,length_zip,Nat.min_self]
  refine wB (ċ (QS (st:=SortSt.mk' k (vs.toArray.zip (vs.toArray)) #[] 7 none) k2 (λp m=>Y p (by rw[B]at m;exact m)) (.none,.none) (by rw[zs];simp at b;omega) (by rw[zs];exact hl) rfl rfl rfl
   (Q:=λ_ c=>zDD _ lt c) λc h=>h) (λr s3 Z=>?_) λ_ _ e=>e)
  obtain⟨⟨⟩,c⟩:=r;refine Z.e λV X K L=>?_;subst V;dsimp only;(rw[iN0 (by simp)]);have F:=u c K (by rw[<-B];exact X) L;have J:failedOf c=none:=K;unfold failedOf at J;rw[J];exact F
end
end Srt
namespace Srt
open PySem PyProof.Rows
section
def UQ(b:l≠[])(h: ∀x,x∈l-> ∃z tk,x=.int z tk):wpAny M A (oneTypeOnly' l.toArray) (λr j=>j=s/\r=some (.type "int")) E s:=by
 refine wB (ċ (UP (g:=λ_=>Value.type "int") λx k=>?_) (λr j c=>?_) λ_ _ e=>e)
 .refine(h x k).j λz tk o=>?_;subst o;exact wP ⟨rfl,rfl⟩
 .obtain⟨rfl,rfl⟩:=c
  match l,b with
  |x::l,_=>
   have m:(List.map (λ_=>Value.type "int") (x::l)).toArray[0]? =some (Value.type "int"):=by simp
   have a:((List.map (λ_=>Value.type "int") (x::l)).toArray.all λx=>x==Value.type "int")=true:=by simp only[List.all_toArray,all_map,ă];intro _ _;rfl
   rw[m];dsimp only;rw[a];exact wP ⟨rfl,rfl⟩
def wp_kindI(G:keys≠[])(h: ∀x,x∈keys-> ∃a m z tk r,x=.ref a/\TupAt s.heap a m/\m=.int z tk::r):
  wpAny M A (keyKind' keys.toArray) (λk q=>q=s/\k=tuples' true) E s:=by
 have w: ∀x, ∃y:Option Ś,x∈keys->(∃z tk,y=some (.int z tk))/\ ∀M:Model,wpAny M A (firstOfTuple' x) (λr q=>q=s/\r=y) E s:=by
  intro x;by_cases c:x∈keys
  .refine(h x c).m λa m z tk r K=>K.f λL u N=>?_;subst L;subst N;exact⟨some _,λ_=>⟨⟨z,tk,rfl⟩,λM=>(by refine u.b λo n u D I=>?_;refine wB (ı (Z0 o u D) ?_);refine wB (listItems_at u I ?_);exact wP ⟨rfl,by simp⟩)⟩⟩
  .exact⟨none,λz=>absurd z c⟩
 let g:=λx=>Classical.choose (w x);have gs: ∀x,x∈keys->(∃z tk,g x=some _)/\ ∀M:Model,wpAny M A _ (λr q=>q=s/\r=g x) E s:=λx c=>Ć (w x) c;refine wB (ċ (UP λx c=>(gs x c).2 M) (λr q v=>?_) λ_ _ e=>e);obtain⟨rfl,rfl⟩:=v;rw[iP (by simp only[List.all_toArray,all_map,ă];intro x c;obtain⟨⟨b,j,e⟩,_⟩:=gs x c;show(g x).isSome=true;rw[e];rfl)];refine wB (ĩ ?_);have C:(keys.map g).toArray.filterMap id=((keys.map g).filterMap id).toArray:=by simp
 rw[C];refine wB (ċ (UQ ?_ ?_) (λr q v=>?_) λ_ _ e=>e)
 .match keys,G,gs with
  |x::l,_,gs=>
   obtain⟨⟨b,j,e⟩,_⟩:=gs x mF0;rw[í,e];simp
 .intro x c;refine(mem_filterMap.mp c).a λy H e=>?_;refine(mM0.mp H).a λz F J=>?_;obtain⟨⟨b,j,B⟩,_⟩:=gs z F;have:some x=some (Value.int b j):=by rw[<-B,J];exact e.symm
  cases this;exact⟨b,j,rfl⟩
 .obtain⟨rfl,rfl⟩:=v;refine wP ⟨rfl,?_⟩;have:((some (Value.type "int")).any λx=>x !=Value.type "tuple")=true:=by rfl
  rw[this]
end
end Srt
namespace Srt
open PySem PyProof.Rows
section
theorem wp_keyLtI(c:TupAt s.heap l (.int x t::r))(v:TupAt s.heap b (.int y u::r2))(o:SeqAt.EqAt A s (.int x t) (.int y u) e)
  (hx:if e=true then LexS A s r r2 k else k=decide (x<y)) (hq:Q k s):
  wpAny ↑3 A (keyLt' (tuples' true) (.ref l) (.ref b)) Q E s:=by
 refine c.b λF I a _ C=>?_;refine v.b λD H j _ B=>?_;refine wB (listItems_at a C (wB (listItems_at j B ?_)));simp only[sA];refine wB ?_;rw[Ī,List.zipIdx_cons,forIn_cons];refine wB (wB (o prog w E _ ?_))
 cases e with
 |true=>
  refine wP ?_;refine ċ (Mi r r2 1 hx (m:=(Value.int x t::r).length) (n:=(Value.int y u::r2).length) (à _) (by simp only[lC0];lia)) (λq G h=>?_) λ_ _ e=>e;obtain⟨rfl,rfl|⟨rfl,e⟩⟩:=h
  .exact wP hq
  .dsimp only;rw[<-e];exact wP hq
 |false=>
  subst hx;refine wB (oneLt_int ?_);exact wP (wP (wP hq))
end
end Srt
namespace L2
namespace M
open PySem PySem.Spec PyProof.Rows
mutual
def qE:MV->Bool
 |.int _=>true
 |.str _=>true
 |.tup ds=>HB ds
 |_=>false
def HB:List MV->Bool
 |[]=>true
 |d::ds=>qE d&&HB ds
end
def NW{α β:Type}{g:α->β}{p m:List β}(h:p.Perm m): ∀l:List α,l.map g=p-> ∃j:List α,j.Perm l/\j.map g=m:=by
 induction h with
 |nil=>intro l e;exact⟨l,.refl _,e⟩
 |cons x _ ih=>
  intro l e
  cases l with
  |nil=>cases e
  |cons a l=>
   injection e with e1 e2
   refine(ih l e2).a λj c o=>?_;exact⟨_,c.cons a,by rw[í,e1,o]⟩
 |swap x y t=>
  intro l e
  match l,e with
  |a::b::l,e=>
   injection e with e1 e2
   injection e2 with e2 e3
   exact⟨_,.swap _ _ _,by rw[í,í,e1,e2,e3]⟩
 |trans _ _ ih1 ih2=>
  intro l e;refine(ih1 l e).a λq p1 s=>?_;refine(ih2 q s).a λk p2 u=>?_;exact⟨k,p2.trans p1,u⟩
section
variable{X:Cx}{α:B9}{H:Hp}{pins:L0}{σ:St}{s:ř}
def zBS(h:LexR A s xs ys k):Srt.LexS A s xs ys k:=by
 induction h with
 |nn=>exact .nn
 |nc x xs=>exact .nc x xs
 |cn x xs=>exact .cn x xs
 |eq a _ ih=>exact .eq a ih
 |ne a b=>exact .ne a b
def YF(I:↑1)(d:Den X.K α H (.tup ds) x)(r:RelV x u): ∃a vs j,u=.ref a/\DenL X.K α H ds vs/\Vals vs j/\Srt.TupAt s.heap a j/\IsTup s.heap a j.toArray:=by refine(yN d).b λa vs q t l=>?_;subst q;subst r;refine(I.tuple t).c λj m pt _=>?_;obtain⟨o,c,b,n,k⟩:=id pt;exact Zv a vs j ⟨rfl,l,m,(ZC o n c b k),pt⟩
end
structure OrdD(S:Sto)(ks:Q0):Prop where
 any: ∀a,a∈ks-> ∀b,b∈ks-> ∃t,IB S zL a b=some t
 tr: ∀a,a∈ks-> ∀b,b∈ks-> ∀c,c∈ks->IB S zL b a=some false->IB S zL c b=some false->IB S zL c a=some false
 as: ∀a,a∈ks-> ∀b,b∈ks->IB S zL a b=some true->IB S zL b a=some false
section
variable{ps:D0}
def Gb(J:↑1)(f:CS X pins H e)(A:X.s₀.heap.objs.size<=e)(C:s.heap.get? e=some (seqObj "list" its.toArray n))(B:Vals ys its)(hz:ys.length<=sizeLine):Inv X pins σ (yV H e (.lst ys)) s:=by
 refine⟨J.ok,J.os,J.bare,⟨J.base.keep,J.base.slot,λb a q n w=>?_,J.base.there,λb xs q=>?_,λb m u q=>?_,λb ps q=>?_⟩,J.loc,J.cell,?_,λx c j=>?_,λp k=>?_,λb u q=>?_,J.len⟩
 .rw[zD λz=>(λo z=>absurd (ê (â z) A) (ĝ _)) a (by rw[<-z];exact q)];exact J.base.free b a q n w
 .rw[zD (zG (J.base.tups b xs q) f.1)];exact J.base.tups b xs q
 .rw[zD (zG (J.base.frzs b m u q) f.1)];exact J.base.frzs b m u q
 .rw[zD (zG (J.base.tbls b ps q) f.1)];exact J.base.tbls b ps q
 .rw[zD (Ne.symm f.2.1)];exact J.free
 .unfold FzC;rw[zD (f.2.2.2.2.1 x c j)];exact J.freeC x c j
 .refine(J.pin p k).h λy n ne nf v=>?_;exact⟨y,by rw[zD (f.2.2.2.2.2 p k)];exact n,ne,nf,v⟩
 .by_cases z:b=e
  .subst z;rw[zO]at q;cases q;exact⟨hz,its,n,B,C⟩
  .rw[zD z]at q;exact(J.hok b u q).stay (λ_ _ _ r=>r) (λc r=>by rw[zD (zG r f.1)];exact r) (λc xs r=>by rw[zD (zG r f.1)];exact r) λc ob xs r=>by rw[zD (zG r f.1)];exact r
def YG(K:O0)(α:B9)(H:Hp)(a:Q0)(u:Ś):MV:=
 open Classical in if h: ∃d v,d∈a/\Den K α H d v/\RelV v u then Classical.choose h else a.headD .non
def ltV(K:O0)(α:B9)(H:Hp)(S:Sto)(a:Q0)(p q:Keyed):Bool:=(IB S zL (YG K α H a p.1) (YG K α H a q.1)).getD false
def cQ{K:O0}(a:kds≠[])(u):YG K α H kds u∈kds:=by
 unfold YG;split
 .rename_i h;refine(Ć h).a λv b _=>?_;exact b
 .match kds,a with
  |x::l,_=>exact mF0
def JX{K:O0}(h: ∃d v,d∈kds/\Den K α H d v/\RelV v u): ∃v,Den K α H (YG K α H kds u) v/\RelV v u:=by unfold YG;rw[dif_pos h];refine(Ć h).c λv _ a b=>?_;exact Z0 v a b
def Mj(I:↑1)(b:↑19)(q:DenL X.K α H kds kvs)(y:Vals kvs ks){i:Nat}(w:ks[i]? =some u)(m:kds[i]? =some a):
  YG X.K α H kds u=a:=by
 refine(q.at m).a λv A o=>?_;refine(y.get A).a λD c r=>?_;rw[w]at c;cases c
 refine(JX ⟨a,v,ë m,o,r⟩).a λC k B=>?_;rw[B.inj r]at k;exact Den.inj I b k o
end
theorem Gc{b a:A0}(j:b.length=N)(c:a.length=N):(List.range N).map (λi=>((b[i]?).getD .none,(a[i]?).getD .none))=b.zip a:=by
 apply Ņ;intro i;rw[î];by_cases hi:i<N
 .have e:(b.zip a)[i]? =some (b[i]'#[0],a[i]'#[0]):=by rw[List.getElem?_zip_eq_some];exact⟨gE _,gE _⟩
  rw[getElem?_range hi,e];show some ((b[i]?).getD .none,(a[i]?).getD .none)=_;rw[gE #[0],gE #[0]];rfl
 .rw[Ď (by rw[ò];lia),Ď (by rw[length_zip];lia)];rfl
theorem JY{β:Type}{l:List β}{d:β}{a:Db}(h: ∀i,i∈a->i<(l.length)):a.map (λi=>(l[i]?).getD d)=a.filterMap (l[·]?):=by
 induction a with
 |nil=>rfl
 |cons i a ih=>
  have hi:=h i mF0;rw[í,ŋ (gE hi),ih λj b=>h j (mO _ b),gE hi];rfl
def Bo(S:Sto)(ds k r:Q0):Prop:= ∃b:List Nat,b.Perm (List.range ↑13)/\b.Pairwise (λi j=> ∀a c,k[i]? =some a->k[j]? =some c->IB S zL c a=some false)/\r=b.filterMap (ds[·]?)
open Classical in
open Classical in
section
variable{X:Cx}{a o i:Expr}
noncomputable def HS(a:List (Key×V))(k:Key)(v:V):List (Key×V):=if(a.any λb=>decide (b.1=k))=true then a.map (λb=>if b.1=k then(b.1,v)else b)else a++[(k,v)]
def US(kvs)(k)(v):(HS kvs k v).length<=kvs.length+1:=by
 unfold HS;split
 .rw[lM0];exact le_succ _
 .rw[lA];exact à _
def Tp(r:KV kvs vs)(k:Key)(a:RelV y u):KV (kvs.map λj=>if j.1=k then(j.1,y)else j) (vs.map λj=>if j.1=k then(j.1,u)else j):=by
 induction r with
 |nil=>exact .nil
 |@cons p q ps qs h t ih=>
  rw[í,í];refine .cons ?_ ih;by_cases e:p.1=k
  .rw[iP e,iP (h.1.symm.trans e)];exact⟨h.1,a⟩
  .rw[iN0 e,iN0 λz=>e (h.1.trans z)];exact h
def Tq(r:KV kvs vs){q:Key×Ś}(h:p.1=q.1/\RelV p.2 q.2):KV (kvs++[p]) (vs++[q]):=by
 induction r with
 |nil=>exact .cons h .nil
 |cons h' t ih=>exact .cons h' ih
def Ml(r:KV kvs vs)(k)(b:RelV y u):KV (HS kvs k y) (stored vs k u):=by
 unfold HS stored;rw[(show (kvs.any λa=>decide (a.1=k))=vs.any λa=>decide (a.1=k) by
   induction r with
   |nil=>rfl
   |cons h t ih=>rw[List.any_cons,List.any_cons,ih,h.1])];by_cases e:(vs.any λa=>decide (a.1=k))=true
 .rw[iP e,iP e];exact Tp r k b
 .rw[iN0 e,iN0 e];exact Tq r ⟨rfl,b⟩
def IF{a b:Key}(h:KeyD k a)(h':KeyD k b):a=b:=by
 cases k with
 |int i=>exact Eq.trans h h'.symm
 |str x=>exact Eq.trans h h'.symm
 |_=>exact False.elim h
def DI{a:Key}(h:KeyD k a)(h':KeyD k' a):k=k':=by
 cases k with
 |int i=>
  subst h
  cases k' with
  |int j=>have b:(Sum.inl i:Key)=.inl j:=h';cases b;rfl
  |str y=>have b:(Sum.inl i:Key)=.inr _:=h';cases b
  |_=>exact False.elim h'
 |str x=>
  subst h
  cases k' with
  |int j=>have b:(Sum.inr _:Key)=.inl j:=h';cases b
  |str y=>
   have b:=h';injection b with b
   rw[CU b]
  |_=>exact False.elim h'
 |_=>exact False.elim h
theorem UT: ∀{j}{m}{k}{k'},DenK X.K α H j m->KeyD k k'->(m.any λu=>decide (u.1=k'))=(look j k).isSome
 |_,_,k,k',.nil,hk=>rfl
 |_,_,k,k',.cons (k:=c) (k':=c') hc a l,hk=>by
  rw[vR,List.any_cons];by_cases h:c=k
  .subst h;rw[iP rfl,dT0 (IF hc hk)];rfl
  .have q: ¬c'=k':=λz=>h (DI hc (z.symm▸hk));rw[iN0 h,dF0 q];exact UT l hk
theorem JZ{j}{q}{k d}{k'}{v}(b:DenK X.K α H j q)(hk:KeyD k k')(hd:Den X.K α H d v):DenK X.K α H (j.map λp=>if p.1=k then(p.1,d)else p) (q.map λm=>if m.1=k' then(m.1,v)else m):=by
 induction b with
 |nil=>exact .nil
 |@cons c c' _ _ _ _ hc a l i=>
  rw[í,í];by_cases h:c=k
  .subst h;rw[iP rfl,iP (IF hc hk)];exact .cons hc hd i
  .have u: ¬c'=k':=λz=>h (DI hc (z.symm▸hk));rw[iN0 h,iN0 u];exact .cons hc a i
def DenK.append: ∀{m j}{xs k},DenK X.K α H m xs->DenK X.K α H j k->DenK X.K α H (m++j) (xs++k):=λb=>by
 induction b with
 |nil=>exact(λh=>h)
 |cons hk a l ih=>exact(λh=>.cons hk a (ih h))
def DenK.length: ∀{j}{xs},DenK X.K α H j xs->↑12=j.length:=λa=>by
 induction a with
 |nil=>exact rfl
 |cons _ _ l ih=>exact by rw[lC0,lC0,ih]
def UU(l:DenK X.K α H kvs ks)(a:KeyD k k')(b:Den X.K α H d v):DenK X.K α H (putK kvs k d) (HS ks k' v):=by
 unfold putK HS;rw[UT l a];by_cases h:(look kvs k).isSome=true
 .rw[iP h,iP h];exact JZ l a b
 .rw[iN0 h,iN0 h];exact l.append (.cons a b .nil)
def DK(X:Cx)(H:Hp)(d:Addr)(a:List (Key×V)):Prop:=H d=some (.dK a)\/(a=[]/\H d=some (DN X.prog X.w d []))
def DK.nf(h:DK X H d ks): ∀ob u,H d≠some (.frz ob u):=h.elim (λz=>Xk z) λz=>by first |exact Xk z.2|exact z.elim
def eB(I:↑1)(h:DK X H d ks):ks.length<=sizeLine/\(d==sysModules)=false/\ ∃vs,KV ks vs/\s.heap.DictOf (jM X.prog X.w) d vs:=by
 rcases h with h|⟨rfl,h⟩
 .exact(I.hok d _ h)
 .obtain⟨⟨v,hs,o,es,c,m,k,q,j,u⟩,_⟩:=(I.hok d _ h)
  have a:=j;refine⟨zero_le _,hs,[],.nil,o,es,c,m,k,q,λe b=>?_,by rw[a];exact .nil,nodup_nil⟩;rw[<-Array.mem_toList_iff,a]at b;exact absurd b (by simp)
theorem FG: ∀{j}{m},DenK X.K α H j m->DenL X.K α H (j.map (·.1)) (m.map λp=>kV p.1)
 |_,_,.nil=>yA
 |_,_,.cons (k:=c) (k':=c') hc a l=>by
  refine zV ?_ (FG l)
  cases c with
  |int i=>rw[show c'=.inl i from hc];exact yQ i
  |str x=>rw[show c'=.inr _ from hc];exact eA x
  |_=>exact False.elim hc
end
noncomputable def inK(k:Key)(l:List Key):Bool:=l.any λj=>decide (j=k)
def Mm(val:Nat->Key):Nat->List Key
 |0=>[]
 |i+1=>if inK (val i) (Mm val i)=true then Mm val i else Mm val i++[val i]
def StrAt(val:Nat->Key)(i:Nat)(v:Ś):Prop:=(∃x t,val i=.inr x/\v=.str x t)\/ ∃x t,val i=.inl x/\v=.int x t
def StrAt.is(h:StrAt val i v):(jM P w).is (val i) v=true/\v.scannable=true:=by
 rcases h with⟨x,t,e,rfl⟩|⟨x,t,e,rfl⟩<;>rw[e]
 .exact⟨tK P w x t,rfl⟩
 .exact⟨GQ P w x t,rfl⟩
noncomputable abbrev xE(a:Bool):Obj:={cls:=.type "set",dict:=none,data:=.set #[] 0 (.fresh 0 0 a)}
def valY(a:Ch)(i:Nat):Key:=.inr (gO (a.getD i []))
def YH:bootBuiltins "set"=some (.type "set"):=by decide+kernel
section
variable{id:String}
def DL(X:Cx)(T:String)(b:V->Hp->Prop):Prop:= ∀(pins:L0)(s:ř)(σ:St)(H:Hp)(x:V)(v:Ś),Inv X pins σ H s->RelV x v->b x H->s.TypeIs v T/\ ∀a,v=.ref a-> ∃ob,s.heap.get? a=some ob/\ob.dict=none
def Mn(c:DL X T TY)(y:PlainAttrs T)(a:Slot T name id)(b:(typeOf (.builtin id)=pure (.type "method_descriptor")))(A:Y1 X id r)(D:PE X o to)(J:PA X (e::es) t)
  (hbase:attributeBase o name X.env (eval o X.env)=eval o X.env)
  (hfew:((backTo pos (starEach (e::es) X.env)).all (λx=>!x.1)&&(backToKw pos (keywordEach [] X.env)).all (λx=>x.1.isSome)
   &&decide ↑6)=true)
  (hline:(apos.endLine==pos.line)=true) (hs:starEach (e::es) X.env=(false,eval e X.env)::starEach es X.env) (hplain:(backTo pos (starEach es X.env)).any (·.1)=false):
  PE X (.Call (.Attribute o name apos) (e::es) [] pos) (λσ H Q=>to σ H λx j=>TY x j/\t σ j λvs k=>r x vs k Q):=by
 rw[22];refine wpAny_Call_method_late hbase hfew hline rfl (xV (D pins s σ H _ I h) λv q ⟨x,j,I1,m,ty,L⟩=>?_);obtain⟨K,F⟩:=c pins q σ j x v I1 m ty;refine Zb T id ⟨y,a,b,K,F,?_⟩;have u:=J pos pins q σ j _ I1 L;rw[hs]at u ⊢;refine Calls.callWith_builtin (by show(false || (backTo pos _).any (·.1))=false;rw[hplain]<;>rfl) (Calls.evalArgs_plain ?_);exact xV u λE w ⟨vs,k,G,B,C⟩=>A pins w σ k x vs v E Q G m B C
end
def VAt(d:Addr)(a:A0)(b:Nat)(h:Heap):Prop:= ∃o es,h.get? d=some o/\o.ExactDict/\o.data=.dict es b/\es.toList.map (·.val)=a
theorem VAt.size(x:VAt d us ep h): ∃o es,h.get? d=some o/\o.ExactDict/\o.data=.dict es ep/\es.size=us.length/\ ∀i (hi:i<es.size),us[i]? =some es[i].val:=by refine x.k λo es b a c e=>?_;refine YZ o es b a c (by rw[<-e,lM0,á]) (λi hi=>?_);rw[<-e,î,ø,ó hi];rfl
end M
end L2
namespace L2
open PySem PySem.Spec PyProof.Rows
open Builtin Builtin.ObjectAttr
section
def SetAt(h h':Heap)(x:Addr)(o:Obj)(a:Str)(v:Ś)(c:Addr):Prop:=
 h.get? c=none/\c≠x/\h'.get? x=some {cls:=o.cls,dict:=some c,data:=o.data,slots:=o.slots}/\h'.Ns1 c (λy=>if y=a then some v else none)/\ ∀b ob,b≠x->h.get? b=some ob->h'.get? b=some ob
end
noncomputable abbrev BIG:Nat:=10 ^ 100
section
variable{σ:St}{H:Hp}
def tJ(i:Nat):TE:=λσ H Q=> ∃n,σ[i]? =some (some (.int n))/\n.natAbs<BIG/\ ∀y:Str,Q (.str y) H
end
namespace M
structure XIn(K:O0)(M C f:Addr):Prop where
 ex: ∃nm q N bs sn sub ab col dd k0 k1 k2 k3 k5,K.lookup C=some (excClassObj nm q C N bs (.ref M::EY) true sn sub ab col dd k0 k1 k2 k3 k5 "ValueError.__new__")/\PySem.W.nsOkIn K N=true/\PySem.W.nsIn K N "__init__"=some (some (.ref f))/\ ∀n∈qn,PySem.W.nsIn K N n=some none
 fo: ∃o,K.lookup f=some o/\o.cls=.type "function"
def XIn.cl{K:O0}(x:XIn K M C f):UN K C (.ref M::EY) (some (.ref f)):=by refine x.ex.z λnm q N bs v sub s j k w o y u m A=>A.e λa b c d=>?_;exact⟨nm,q,N,bs,true,v,sub,s,j,k,w,o,y,u,m,a,b,c,d,rfl⟩
structure DefM(K:O0)(mg:G0)(x:Str)(st:Stmt):Prop where
 ex: ∃f fd,mg x=some (.ref f)/\Fun K x x st f fd
def def_mk{K:O0}{st:Stmt}{kV:Ś}(a:PySem.W.nsIn K mainGlobals x=some (some (.ref g)))
  (l:K.lookup g=some ⟨oc,od,.func (PySem.W.fnOf x x (aZ st) (xW st) (zI st) .none kV dc pm an cd ct),sl⟩) (c:PySem.W.codeIn K cd x=true) (k:PySem.W.keepIn K (.ref g)=true) (X:K.In h) (GG:h.Ns mainGlobals mg):DefM K mg x st:=⟨_,_,PySem.W.mg_of X GG a,fun_mk l c k⟩
structure Cal(P:ś)(w:World)(K:O0)(mg:G0)(base:Heap)(CX:Ef)(x:Str)(k:Nat)(ps:D0)(sp:Sp):Prop where
 ex: ∃fa fd,FnOk P w K mg base CX k fa fd ps sp/\mg x=some (.ref fa)/\PySem.W.keepIn K (.ref fa)=true/\Binds K fd ps []
abbrev xD(P:Program)(w:World)(K:O0)(mg:G0)(base:Heap)(x:Str)(k n:Nat)(ps:D0)(F:↑16):Prop:=Cal P w K mg base tH x k ps (JM ⟨K,mg,P,w⟩ n F)
abbrev Tr(P:Program)(w:World)(K:O0)(mg:G0)(base:Heap)(x:Str)(k n:Nat)(ps:D0)(F:↑16):Prop:=Cal P w K mg base (Ij P w) x k ps (Ma ⟨K,mg,P,w⟩ n F)
section
variable{K:O0}{st:Stmt}
abbrev YI(x:Str)(st:Stmt)(ps:D0):Prop:= ∀(kV b k:Value)(j:Option Addr)(c ct:Value)(a:A0),a.length=ps.length->bindArgs (PySem.W.fnOf x x (aZ st) (xW st) (zI st) .none kV b k j c ct) ⟨a,[]⟩=pure (ps.zip a)
def okC(D:DefM K mg x st)(b:YI x st ps)(h: ∀f j,Fun K x x st f j->FnOk P w K mg base tH k f j ps (JM ⟨K,mg,P,w⟩ n F)):xD P w K mg base x k n ps F:=
 let ⟨f,j,m,a⟩:=D.ex;⟨f,j,h f j a,m,a.kp,a.binds b⟩
def Cal.noX(G:Tr P w K mg base x k n ps F):xD P w K mg base x k n ps F:=let ⟨a,j,G,m,c,b⟩:=G.ex;⟨a,j,G.noX,m,c,b⟩
def K9{l:PySem.W.OpenLaw}(D:DefM K mg x st)(a:mg x=some (.ref fa))(o: ∀ kV q y  B  u ct  s  v ,BindsTo s (PySem.W.fnOf x x (aZ st) (xW st) (zI st) .none kV q y B u ct) ⟨[v],[]⟩ [(p,v)])
  (h: ∀base f j,Fun K x x st f j->FnOk l.prog w K mg base tH k f j [p] (JM ⟨K,mg,l.prog,w⟩ 1 F)):
  ∃j:FuncData,(∀ s  v ,BindsTo s j ⟨[v],[]⟩ [(p,v)])/\ ∀base:Heap,K.In base->base.Ns mainGlobals mg->FnOk l.prog w K mg base tH k fa j [p] (NT K F):=by
 refine D.ex.d λf j m b=>?_;rw[a]at m;cases m;refine Z0 j ?_ (λbase _ _=>(h base fa j b).imp λc H Q E=>Ll (g:=⟨K,mg,_,w⟩) c H Q E);refine b.ex.v λ_ _ _ _ _ _ _ _ _ A=>A.f λC _ _=>?_;subst C;exact o _ _ _ _ _ _
end
section
variable{W:XW}{p pos:Pos}
def KA(G:xD X.prog X.w X.K X.mg X.base x k n ps F)(B:Room k X.A)(C:Gl X x)(a:(GY X W (e::es) af))(c:(x==("__debug__"))=false:=by decide)
  (he:q9 X e es:=by rfl) (hpl:Q1 X pos es:=by rfl):zP X W (.Call (.Name x p) (e::es) [] pos) (λj S=>(af j S).bind λrs u=>zE n F rs u):=
 let ⟨_,_,G,m,v,b⟩:=G.ex;(by
   refine a.a λt a E=>?_;refine Z0 _ (Qf G B C m v b .nil Jo a c he hpl) (λα j S σ H Q y sl q=>E α j S σ H _ y sl (q.bind λL rs u D M N o I s J=>?_));rw[aN];exact NO o I s J)
variable{i:Nat}{nm:Str}{mp hpos cpos epos:Pos}
def Mp(T:XTab X.K X.mg M cs)(L:Gl X "MendError")(U:X.N.Nodup)(G:Tr X.prog X.w X.K X.mg X.base x k n ps F)(hr:Room k X.A)(hg:Gl X x)(J:GY X.nox W0 (e::es) af)(a: ∀v,tI (X.inH v) W0 (b0::suite) Fh)(o:cs.map (·.1)=ns:=by rfl)(hi:X.N[i]? =some nm:=by rfl)(hk:X.env.kindOf nm=some .local:=by rfl)(C:X.ex=[]:=by rfl)(c:X.stack=X.env::X.outer:=by rfl)(B:X.env.frame=some X.env.locals:=by rfl)
  (hdb:(x==("__debug__"))=false:=by decide) (he:q9 X e es:=by rfl) (hpl:(backTo cpos (starEach es X.env)).any (·.1)=false:=by rfl) (hs:swapsWith (.Call (.Name x p) (e::es) [] cpos) none epos.line X.env=pure false:=by rfl):
  IA X W (.Try [.Expr (.Call (.Name x p) (e::es) [] cpos) epos] [.ExceptHandler (some (.Name "MendError" mp)) (some nm) (b0::suite) hpos] [] [] pos)
   (λj S=>(noX (af j S)).bind λrs Q=>YD ns i (λ_ S2=>.ok (.next j) S2) Fh j (qD n F rs Q)):=
 let ⟨_,_,G,m,kp,b⟩:=G.ex;(by
   subst o;refine J.a λta J kk=>?_
   refine⟨λD σ H=> ∀pins s,Inv X pins σ H s->wpAny _ X.A _ _ X.xe s,
    λpins s σ H D I h=>h pins s I,λα j S σ H D wd sl q pins s I=>?_⟩
   refine wB (wpAny_standAt (wpAny_tryStmt_except (wpAny_execs_cons (wpAny_Expr_any ?_ I.quiet hs))));have ht:=Mc kk wd sl q λr Q u E P q1 O w1 _=>q1 σ E P O w1 (sl.ext O);refine xV (Mb G hr hg m kp b J I ht (λP s1 y s' I1 Z=>J9 T L U hi hk a C c B sl I1 Z) hdb he hpl) λu s' ⟨v,H',Y,_,q'⟩=>?_;exact Ő (Ő (Zy (σ) H' Y q')))
end
end M
end L2
namespace L2
open PySem PySem.Spec PyProof.Rows
structure RoomH(k:Nat)(A:Around):Prop where
 dp:A.depth+3 * k+5<recursionLimit
 un:A.units+16 * k+200<cLine
def RoomH.depth(r:RoomH k A):A.depth<recursionLimit:=by have:=r.dp;lia
def RoomH.units(r:RoomH k A):A.units+64<cLine:=by have:=r.un;lia
namespace M
noncomputable def Ts:List Er->Sto->R Er
 |[.val (.int i),.val (.int j)],S=>.ok (.val (.int (if j<i then j else i))) S
 |_,_=>.no
section
def L3:aT X W (λxs H Q=> ∃i j,xs=[.int i,.int j]/\Q (.int (if j<i then j else i)) H) Ts:=by
 intro o m α S H Q b d a;unfold Ts at a;split at a
 .refine(Xv d).b λv u q k c=>?_;subst q;cases yK k;cases yK c;exact Zy _ _ rfl (Post.val a b (yQ _))
 .exact a.elim
end
def L4:bootBuiltins "min"=some (.builtin "min"):=by decide+kernel
noncomputable def zBT(a:Y0)(S:Sto):R Er:=.ok (.val (.loc ↑2)) (S++[.dic a])
section
variable{X:Cx}{o e:Expr}{es:N0}
noncomputable def jC(a:List (Key×V))(k:Key):Option V:=(a.find? λp=>decide (p.1=k)).map (·.2)
theorem DM: ∀{j}{vs}(r:KV j vs) k ,(∀v,jC j k=some v-> ∃u,valueAt vs k=some u/\RelV v u)/\(jC j k=none->valueAt vs k=none)
 |_,_,.nil,k=>⟨λv h=>(nomatch h),λ_=>rfl⟩
 |(a,x)::j,(b,u)::vs,.cons ⟨h1,h2⟩ l,k=>by
  subst h1;unfold jC valueAt;by_cases c:a=k
  .simp only[find?_cons,c];exact⟨λv h=>⟨u,rfl,by cases h;exact h2⟩,λh=>nomatch h⟩
  .simp only[find?_cons,c];exact(DM l k)
theorem qF: ∀{j}{m}{k}{k'},DenK X.K α H j m->KeyD k k'->(∀d,look j k=some d-> ∃v,jC m k'=some v/\Den X.K α H d v)/\(look j k=none->jC m k'=none)
 |_,_,_,_,.nil,_=>⟨λd h=>(nomatch h),λ_=>rfl⟩
 |_,_,k,k',.cons (k:=k0) (k':=k0') (v:=v0) h1 h2 l,hk=>by
  rw[vR];unfold jC;by_cases c:k0=k
  .subst c;have:=IF h1 hk;simp only[find?_cons,this];exact⟨λd h=>⟨v0,rfl,by cases h;exact h2⟩,λh=>nomatch h⟩
  .have a: ¬k0'=k':=λz=>c (DI h1 (z▸hk));simp only[find?_cons,a,iN0 c];exact(qF l hk)
def TyK(X:Cx)(x:V)(H:Hp):Prop:= ∃d a,x=.ref d/\DK X H d a
def QT:DL X "dict" (TyK X):=by intro pins s σ H x v I k ⟨d,q,e,j⟩;subst e;subst k;obtain⟨_,hs,m,u,o,es,w,c,b,_⟩:=eB I j;exact⟨⟨o,c,b.1⟩,λa e=>by cases e;exact⟨o,c,b.2.1⟩⟩
end
section
def vJ(i:Nat)(a:Rho)(S:Sto):R Er:=Ra (a[i]?) S
noncomputable def kJ(d:MV)(_:Rho)(S:Sto):R Er:=.ok (.val d) S
noncomputable def bJ(f:Rho->Sto->R α)(F:α->Sto->R β)(a:Rho)(S:Sto):R β:=(f a S).bind F
noncomputable def dJ(F:Er->Er->Sto->R Er)(f g:AX)(a:Rho)(S:Sto):R Er:=(f a S).bind λp S=>(g a S).bind λq S=>F p q S
def nJ(f:AX)(a:Rho)(S:Sto):R Er:=(f a S).bind λp S=>(gB p S).bind λk S=>.ok (.val (.bl !k)) S
def aJ(f g:AX)(a:Rho)(S:Sto):R Er:=(f a S).bind λp S=>Re p S λS=>g a S
def oJ(f g:AX)(a:Rho)(S:Sto):R Er:=(f a S).bind λp S=>orF p S λS=>g a S
noncomputable def iJ(c:AZ)(f g:Rho->Sto->R α)(a:Rho)(S:Sto):R α:=(c a S).bind λk S=>if k=true then f a S else g a S
noncomputable def mJ(_:Rho)(S:Sto):R (Option Int):=.ok none S
noncomputable def tJ(F:Er->Option Int->Option Int->Sto->R Er)(f:AX)(g h:Rho->Sto->R (Option Int))(a:Rho)(S:Sto):R Er:=(f a S).bind λp S=>(g a S).bind λl S=>(h a S).bind λu S=>F p l u S
def lJ(k:Y0)(_:Rho)(S:Sto):R Er:=zBT k S
def zJ(_:Rho)(S:Sto):R Er:=Xw S
def fJ(n:Nat)(F:↑16)(a:(Rho->Sto->R (List Er)))(b:Rho)(S:Sto):R Er:=(a b S).bind λr S=>zE n F r S
def xJ(n:Nat)(F:↑16)(a:(Rho->Sto->R (List Er)))(b:Rho)(S:Sto):R Er:=(a b S).bind λr S=>qD n F r S
def hJ(F:↑16)(_:Rho)(S:Sto):R Er:=zE 0 F [] S
noncomputable def eJ(t:Er->Sto->Bool)(F:Er->List Er->Sto->R Er)(f:AX)(a:(Rho->Sto->R (List Er)))(b:Rho)(S:Sto):R Er:=(f b S).bind λp S=>if t p S=true then(a b S).bind λr S=>F p r S else .no
noncomputable def gJ(t:Er->Sto->Bool)(F:Er->List Er->Sto->R Er)(f:AX)(a:Rho)(S:Sto):R Er:=(f a S).bind λp S=>if t p S=true then F p [] S else .no
noncomputable def uJ(_:Rho)(S:Sto):R Bool:=.ok true S
def pJ(i:Rho->Sto->R Wk)(g:(MV->Rho->Sto->R Rho))(c:AZ)(e:AX)(n:Nat)(I:Db)(a:Rho)(S:Sto):R Er:=(i a S).bind λk S=>if (k.ds.length)<1000000 then(zW g c e (WO n I a) k.gs k.ds S).bind λo S=>.ok (.new o) S else .no
def jJ(F G:Er->Er->Sto->R Er)(f g h:AX)(a:Rho)(S:Sto):R Er:=(f a S).bind λp S=>(g a S).bind λq S=>B5 F G p q S λS=>h a S
noncomputable def qJ(f:AZ)(a:Rho)(S:Sto):R Bool:=(f a S).bind λk S=>.ok (!k) S
noncomputable def rJ(f g:AZ)(a:Rho)(S:Sto):R Bool:=(f a S).bind λk S=>if k=true then g a S else .ok false S
noncomputable def sJ(f g:AZ)(a:Rho)(S:Sto):R Bool:=(f a S).bind λk S=>if k=true then .ok true S else g a S
noncomputable def wJ(_:Rho)(S:Sto):R (List Er):=.ok [] S
noncomputable def yJ(f:AX)(g:(Rho->Sto->R (List Er)))(a:Rho)(S:Sto):R (List Er):=(f a S).bind λp S=>(g a S).bind λl S=>.ok (p::l) S
noncomputable def AJ(f:AX)(a:Rho)(S:Sto):R Fl:=(f a S).bind λr S=>.ok (.ret r) S
noncomputable def BJ(f:AX)(a:Rho)(S:Sto):R Fl:=(f a S).bind λ_ S=>.ok (.next a) S
def CJ(f:AX)(i:Nat)(a:Rho)(S:Sto):R Fl:=(f a S).bind (JI a i)
noncomputable def DJ(F:Er->Er->MV->Rho->Sto->R Rho)(f g:AX)(d:MV)(a:Rho)(S:Sto):R Rho:=(f a S).bind λp S=>(g a S).bind λq S=>F p q d a S
def EJ(f:AX)(g:(MV->Rho->Sto->R Rho))(a:Rho)(S:Sto):R Fl:=(f a S).bind (Fe g a)
def FJ(i:Rho->Sto->R Wk)(g:(MV->Rho->Sto->R Rho))(b:AY)(a:Rho)(S:Sto):R Fl:=(i a S).bind λk S=>dU g b k.gs k.ds a S
noncomputable def GJ(a:(Rho->Sto->R (List Er)))(c:Str)(b:Rho)(S:Sto):R Fl:=(a b S).bind λr S=>if r.length<=10 then .exc c [] S else .no
def HJ(c:D0)(i:Nat)(h:AY)(n:Nat)(F:↑16)(a:(Rho->Sto->R (List Er)))(b:Rho)(S:Sto):R Fl:=(noX (a b S)).bind λr S=>YD c i (λ_ S=>.ok (.next b) S) h b (qD n F r S)
def IJ(c:D0)(i j:Nat)(h:AY)(n:Nat)(F:↑16)(a:(Rho->Sto->R (List Er)))(b:Rho)(S:Sto):R Fl:=(noX (a b S)).bind λr S=>YD c i (JI b j) h b (qD n F r S)
noncomputable def JJ(a:Rho)(S:Sto):R Fl:=.ok (.next a) S
end
section
variable{W:XW}{e:Expr}{p:Pos}
def augF(F:Er->Er->Sto->R Er)(i:Nat)(f:AX)(a:Rho)(S:Sto):R Fl:=(Ra (a[i]?) S).bind λp b=>(f a b).bind λq c=>(F p q c).bind (JI a i)
noncomputable def intsOf:List MV->Option (List Int)
 |[]=>some []
 |.int i::ds=>(intsOf ds).map (i::·)
 |_::_=>none
theorem ints_of{K:O0}: ∀{ds}{ns}{vs}{j},intsOf ds=some ns->DenL K α H ds vs->Vals vs j->IntsAre j ns
 |[],ns,vs,j,e,d,r=>by cases e;rw[d.isnil]at r;cases r;exact .nil
 |x::ds,ns,vs,j,e,d,r=>by
  refine d.uncons.b λv q o k m=>?_;subst o
  cases r with
  |cons a b=>
   cases x<;>first |(cases e)|skip
   unfold intsOf at e
   cases z:intsOf ds with
   |none=>rw[z]at e;cases e
   |some ms=>
    rw[z]at e;cases e;cases yI k;obtain⟨t,rfl⟩:=a;exact .cons _ _ (ints_of z m b)
def eT: ∀{j}{ns},IntsAre j ns->Vals (ns.map V.int) j:=λa=>by
 induction a with
 |nil=>exact .nil
 |cons n t h ih=>exact .cons ⟨t,rfl⟩ (ih)
theorem Gd:CallR X (.builtin "sorted") (λxs H Q=> ∃l vs ds ns α,xs=[.ref l]/\SqL X.K H l vs/\intsOf ds=some ns/\DenL X.K α H ds vs/\↑13<64/\ ∀p,H p=none->Q (.ref p) (yV H p (.lst ((PySem.W.sortI ns).map V.int)))):=by
 intro pins s σ H xs L Q I r h;refine h.m λl vs ds ns α O=>O.g λP G hi k M q=>?_;subst P;refine(vals1 r).a λu T C=>?_;subst T;subst C;refine(I.list G).c λc j p _=>?_;have v:=ints_of hi k j;have a:c.length<64:=by have:=(j.length);have:=k.length;lia
 refine sorted_ints p.isList v a λout E m y A=>?_;obtain⟨e,D⟩:=sortedAll_at s.heap c out;have J:=PySem.W.eq_sortI y A;subst J;refine ZC (.ref _) _ (I.laid (λb o e=>sortedAll_old e) (le_succ _) (show ObjOk X.prog X.w _ _ _ (.lst _)from⟨?_,_,e,eT m,?_⟩)) rfl (q _ (I.hok.fresh (le_succ _)))
 .have F:=(eT m).length;have N:=y.length_eq;have B:=(eT v).length;have:=ý;rw[lM0]at F B ⊢
  lia
 .rw[Ł];exact D
def rF:bootBuiltins "sorted"=some (.builtin "sorted"):=by decide+kernel
def UV(rs:List Er)(S:Sto):R Er:=match rs with
 |[p]=>match wN S p with
  |some ds=>if ds.length<64 then(match intsOf ds with |some ns=>.ok (.new ((PySem.W.sortI ns).map MV.int)) S|none=>.no)else .no
  |none=>.no
 |_=>.no
def Tt:aT X W (λxs H Q=> ∃l vs ds ns α,xs=[.ref l]/\SqL X.K H l vs/\intsOf ds=some ns/\DenL X.K α H ds vs/\↑13<64/\ ∀p,H p=none->Q (.ref p) (yV H p (.lst ((PySem.W.sortI ns).map V.int)))) UV:=by
 intro s vs α S H Q b d a;unfold UV at a;split at a
 .split at a
  .rename_i ds e;split at a
   .rename_i j;split at a
    .rename_i ns hi;refine(eZ d).a λv u q=>?_;subst u;refine(qA rfl b e q).b λl c y m k=>?_;subst y;exact Zp l c ds ns (α) ⟨rfl,m,hi,k,j,(λp o=>Post.newl a b o (pX _))⟩
    .exact a.elim
   .exact a.elim
  .exact a.elim
 .exact a.elim
end
def KJ(n:Nat)(F:↑16)(a:(Rho->Sto->R (List Er)))(b:Rho)(S:Sto):R Er:=(noX (a b S)).bind λr S=>qD n F r S
def LJ(c:AZ)(f g:AX)(a:Rho)(S:Sto):R Er:=(noX (c a S)).bind λk S=>if k=true then f a S else g a S
def MJ(b:D0)(i:Nat)(h:AY)(f:AX)(a:Rho)(S:Sto):R Fl:=YD b i (λ_ S=>.ok (.next a) S) h a (f a S)
section
noncomputable def Mq(r:Addr)(j:Int):HO:=.ext λh=> ∃t u v,IsRange h r 0 j 1 t u v
def L5(B:Gl X "range")(y:X.mg "range"=none)(C:PA X [a] ta)(hs:starEach [a] X.env=[((false,eval a X.env))]:=by rfl):
  PE X (.Call (.Name "range" p3) [a] [] pos2) (λσ H Q=>ta σ H λvs k=> ∃j:Int,vs=[.int j]/\ ∀r,k r=none->Q (.ref r) (yV k r (Mq r j))):=by
 rw[22];refine Call_ (ER I B y boot_range (ķ (xV (C pos2 pins s σ H _ I h) λF m ⟨vs,k,I1,w,E⟩=>?_) hs rfl));refine E.a λj K q=>?_;subst K;obtain⟨u,rfl,t,rfl⟩:=vals1 w;refine call_range_1 ?_;have c:=I1.hok.fresh (à _);refine ZC (.ref m.heap.objs.size) _ (I1.laid (o:=Mq m.heap.objs.size j) (λb o e=>hP0 _ e) (à _) ⟨(Zv _ _ _ (IsRange.new ..)),⟨_,ã _ rfl⟩,?_⟩) rfl (q _ c);rintro J G ⟨t,u,v,A⟩ D;exact Zv t u v (D _ A)
def MQ{a:Int}{n:Nat}(M:(A.handled=none))(J:IsRange s.heap r a b c t u v)(m:Builtin.Range.small a b c=true)
  (hn:Builtin.Range.rangeSize a b c=n) (hlen:n<=2 ^ 24) (hQ: ∀h' tk j,↑7->ItemsOf (λi v=> ∃t,v=.int (a+i * c) t) j n->Q j.toList {s with heap:=h',toks:=tk}):
  wpAny ↑3 A (collect (.ref r)) Q E s:=by
 unfold collect;refine wB (wpAny_runValue (đ F.entry_proto_collect ?_));rw[Č F.plain_proto_collect _];show wpAny _ A.in1 _ _ _ s;refine wB (Ą ?_);refine wP ⟨ī F.plain_list_iadd _,đ F.entry_list_iadd ?_⟩;rw[Č F.plain_list_iadd _];show wpAny _ A.in1 _ _ _ _;have L:(s.heap.push {cls:=.type "list",data:=.seq ([]:A0).toArray}).get? ↑0=some {cls:=.type "list",data:=.seq #[] 0}:=ã _ rfl
 have q: ∀h' tk j k,(∀b o,b≠↑0->(s.heap.push {cls:=.type "list",data:=.seq ([]:A0).toArray}).get? b=some o->h'.get? b=some o)->h'.get? ↑0=some {cls:=.type "list",dict:=none,data:=.seq j k,slots:=#[]}->ItemsOf (λi v=> ∃t,v=.int (a+i * c) t) j n->
   wpAny (model prog w) A (match Value.ref s.heap.objs.size with
   |Value.ref a=>do
    match (<-load a).data with
     |Data.seq xs _=>pure xs.toList
     |_=>unsupported "internal:collect"
   |_=>unsupported "internal:collect") Q E {s with heap:=h',toks:=tk}:=by
  intro h' tk j k N I B;show wpAny _ A _ _ _ _;refine wB (wpAny_load I ?_);refine wP ?_;exact hQ h' tk j (λb o e=>N b o (ä (â e)) (hP0 _ e)) B
 refine ċ (wpAny_extend_range (R:=λG K=>G=.ok _/\ ∃h' tk j k,K={s with heap:=h',toks:=tk}/\(∀b o,b≠↑0->(s.heap.push {cls:=.type "list",data:=.seq ([]:A0).toArray}).get? b=some o->h'.get? b=some o)/\h'.get? ↑0=some {cls:=.type "list",dict:=none,data:=.seq j k,slots:=#[]}/\ItemsOf (λi v=> ∃t,v=.int (a+i * c) t) j n)
  M (hP0 _ J) m hn hlen ↑0 (.ref ↑0) 0 L λh' tk j k y C D=>⟨rfl,h',tk,j,k,rfl,y,C,D⟩) (λH K h=>?_) (λe K h=>?_)
 .cases H with
  |done f=>
   obtain⟨e,h',tk,j,k,rfl,y,C,D⟩:=h;cases e;exact q h' tk j k y C D
  |again k=>exact⟨h.1,İ h.2 λr O J=>by obtain⟨rfl,h',tk,j,k,rfl,y,C,D⟩:=J;exact q h' tk j k y C D⟩
 .exact absurd h.1 (by simp)
end
section
variable{n:Nat}
def UW(H:(A.handled=none))(C:IsRange s.heap r a b c t u v)(k:Builtin.Range.small a b c=true)(J:Builtin.Range.rangeSize a b c=n)(q:n<=2 ^ 24)
  (h: ∀(h':Heap) tk  acc' ,↑7->ItemsOf (λi v=> ∃t,v=.int (a+i * c) t) acc' n->Q₁ (.ref (h'.objs.size)) {s with heap:=h'.push {cls:=.type "tuple",data:=.seq acc'},toks:=tk}):
  codeAny ↑3 A (.call (.builtin "tuple.__new__") ⟨[.type "tuple",.ref r],[]⟩) (wants Q₁ E) s:=by
 refine codeAny_of_tree ?_;show wpAny _ A.in1 _ _ _ s;refine wB (wpAny_of_eq (F.newCall_tuple_1 _) (wP ⟨ī F.plain_tuple_new _,đ F.entry_tuple_new ?_⟩));rw[Č F.plain_tuple_new _];have D:=sub_tuple_self;have y:=init_tuple_lookup;have G:=madeHere_tuple;have B:s.TypeIs (.ref r) "range":=(Z0 _ C rfl)
 wp_walk using ı B,MQ (A:=A.in1) H C k J q
 intro h' tk j I m;show wpAny _ _ (Builtin.Tuple.tupleExact j.toList.toArray >>= λv=>ret v) _ _ _;unfold Builtin.Tuple.tupleExact;refine wB (Ą ?_ (by show j.toList.toArray.size<=sizeLine;simp only[Ł];rw[m.1,ý];omega));refine wP ?_;have e:j.toList.toArray=j:=by simp
 rw[e];exact h h' tk j I m
def FH(I:(A.handled=none))(H:IsRange s.heap r a b c t u v)(m:Builtin.Range.small a b c=true)(G:Builtin.Range.rangeSize a b c=n)(y:n<=2 ^ 24)
  (hQ: ∀(h':Heap) tk  acc' ,↑7->ItemsOf (λi v=> ∃t,v=.int (a+i * c) t) acc' n->Q (.ref (h'.objs.size)) {s with heap:=h'.push {cls:=.type "tuple",data:=.seq acc'},toks:=tk}):
  wpAny ↑3 A (call (.type "tuple") [.ref r]) Q E s:=by
 refine callType_codes (Q₁:=λq j=>j.TypeIs q "tuple"/\Q q j) F.called_tuple (F.typeCall_tuple_1 _) F.entry_object_init
  (UW I H m G y λh' tk C D B=>⟨(Z0 _ (ã _ rfl) rfl),hQ h' tk C D B⟩) λq j k=>?_
 exact⟨k.1,F.args_object_init_2 q _,object_init_meets F.called_tuple.init.lookup F.called_tuple.made ↑4 prog w A.in1 _ j ⟨k.1,rfl,k.2⟩⟩
end
section
variable{pos pos2 p2 p3:Pos}
noncomputable abbrev Tu(j:Int):List Int:=(List.range j.toNat).map Int.ofNat
theorem Ge:CallR X (.type "tuple") (λxs H Q=> ∃r j,xs=[.ref r]/\H r=some (Mq r j)/\ -1000000<=j/\j<=1000000/\X.calm=true/\ ∀p,H p=none->Q (.ref p) (yV H p (.tup ((Tu j).map V.int)))):=by
 intro pins s σ H xs M Q I r h;obtain⟨L,j,rfl,J,N,O,G,q⟩:=h;refine(vals1 r).a λ_ P B=>?_;subst P;subst B;obtain⟨⟨t,u,v,E⟩,_⟩:=(I.hok L _ J)
 refine FH (I.ok.hd G) E (small_one ↑4 ↑4 #[0] #[0]) (show Builtin.Range.rangeSize 0 j 1=j.toNat by rw[rangeSize_one];split<;>lia) #[0] λh' tk a K c=>?_;have I1:Inv X pins σ H {s with heap:=h',toks:=tk}:=I.kept K
 have D:Inv X pins σ (yV H (h'.objs.size) (.tup _)) {s with heap:=h'.push {cls:=.type "tuple",data:=.seq a},toks:=tk}:=
  I1.laid (λb o e=>hP0 _ e) (à _) (⟨?_,_,(by
    obtain⟨F,C⟩:=c;refine ?_
    have m: ∀(l:A0)(k:Nat),(∀i v,l[i]? =some v-> ∃t,v=Value.int ((k+i:Nat):Int) t)->Vals (((List.range' k (l.length)).map Int.ofNat).map V.int) l:=by
     intro l
     induction l with
     |nil=>intro k _;exact .nil
     |cons x l ih=>
      intro k y;obtain⟨t,rfl⟩:=y 0 x rfl;refine .cons ⟨t,rfl⟩ (ih _ λi v w=>?_);obtain⟨A,e⟩:=y (i+1) v w;exact⟨A,by exact qq e (qq (show k+_=k+1+i by lia) rfl)⟩
    have:=m a.toList 0 λi v w=>by
     obtain⟨t,e⟩:=C i v (by rw[<-ø];exact w);refine⟨t,e.trans ?_⟩;congr 1
     lia
    rw[á,F, <-List.range_eq_range']at this;exact this),?_⟩)
 .exact(ZC (.ref (h'.objs.size)) _ D rfl (q _ (I1.hok.fresh (à _))))
 .rw[lM0,lM0,ò,ý]
  lia
 .have:=IsTup.new h' a;simpa using this
def KB(rs:List Er)(S:Sto):R Er:=match rs with
 |[.val (.int j)]=>if -1000000<=j/\j<=1000000 then .ok (.val (.tup ((Tu j).map MV.int))) S else .no
 |_=>.no
def Tv(K:X.calm=true)(M:Gl X "tuple")(I:X.mg "tuple"=none)(c:Gl X "range")(w:X.mg "range"=none)(s:GY X W [a] af)(hs:starEach [a] X.env=[((false,eval a X.env))]:=by rfl)
  (he1:starEach [.Call (.Name "range" p3) [a] [] pos2] X.env=(false,eval (.Call (.Name "range" p3) [a] [] pos2) X.env)::starEach [] X.env:=by rfl) (hpl1:(backTo pos (starEach [] X.env)).any (·.1)=false:=by rfl):
  zP X W (.Call (.Name "tuple" p2) [.Call (.Name "range" p3) [a] [] pos2] [] pos) (λm S=>(af m S).bind KB):=by
 refine s.a λt s k=>?_;refine Z0 _ (pR Ge M I DE (aY (L5 c w s hs) BO he1) ↑4 ↑4 he1 hpl1) (λα m S σ H Q L sl q=>k α m S σ H _ L sl (q.bind λO Y P E T U C B J b=>?_))
 replace b:=b.shift C
 unfold KB at b;split at b
 .split at b
  .rename_i j A;refine(JL J).a λu V D=>?_;subst V;cases yK D;refine⟨j,rfl,λv y=>?_⟩;have F:=B.newx (o:=Mq v j) y;have N:=B.new (o:=Mq v j) y;exact Zb v j ⟨rfl,zO,A.1,A.2,K,(λp G=>(b.shift F).newt N G (pX _))⟩
  .exact b.elim
 .exact b.elim
end
end M
end L2
namespace L2
open PySem PySem.Spec PyProof.Rows
section
def Bp(I:↑1)(e:H a=some (.frz o (.ins C dx fs))): ∃j,ObjM s.heap a dx C j/\ ∀f,RelO (fs.lookup f) (j f):=by
 obtain⟨_,d,z,ne,ob,j,n,r,q⟩:=(I.hok a _ e)
 exact Z0 j ⟨ob,n,ne⟩ r
def UX(I:↑1)(e:H a=some (.frz o (.ins C dx fs)))(c:Cls X.K C)(n:NoAttr X.K C f)(l:fs.lookup f=some v)
  (h: ∀u k,Inv X pins σ H k->RelV v u->Q u k):wpAny ↑5 A (getAttr (.ref a) f b) Q E s:=by
 refine(Bp I e).a λy O r=>?_;refine(RelO.some_of (by rw[<-l];exact r f)).a λu q j=>?_;exact (by
   refine O.look.a λB J m=>?_;exact PySem.W.get_value (I.kIn) J (PySem.W.plainGet_of (c.get f)).1 (PySem.W.findObj_own (c.hd) n rfl (by rw[m,q])) ((by
     cases v with
     |non=>subst j;rfl
     |bl b=>subst j;rfl
     |int i=>obtain⟨t,e⟩:=j;subst e;rfl
     |str x=>obtain⟨t,e⟩:=j;subst e;rfl
     |byt b=>obtain⟨t,e⟩:=j;subst e;rfl
     |flt b=>obtain⟨t,e⟩:=j;subst e;rfl
     |ref a=>subst j;rfl
     |ty n=>subst j;rfl)) (h u _ (I.tok _) j))
def UY(I:↑1)(e:H a=some (.frz o (.ins C dx fs)))(c:Cls X.K C)(k:Meth X.K C m g)(l:fs.lookup m=none)
  (h:Q (.ref g,[.ref a]) s):wpAny ↑5 A (getMethod (.ref a) m pl) Q E s:=by
 refine(Bp I e).a λj O r=>?_;have b:=RelO.none_of (by rw[<-l];exact r m);exact Jh I.kIn O (c.get m) k.at_ k.fn b h
def Inv.freeze(I:↑1)(e:H a=some (.ins C dx fs)):Inv X pins σ (yV H a (.frz (PySem.W.instObj C dx) (.ins C dx fs))) s:=by
 obtain⟨d,z,ne,ob,b,n,r,q⟩:=(I.hok a _ e)
 exact I.write (by rw[e];exact True.intro) (.inl rfl) (λ_ _ _ q=>q) ⟨_,ob⟩ ⟨ob,by rw[zD ne];exact d,z,ne,ob,b,n,r,q⟩
end
namespace M
structure OC(K:O0)(c:Str)(C:Addr):Prop where
 ns:PySem.W.nsIn K mainGlobals c=some (some (.ref C))
 nm:(PySem.W.clsIn K C).map (·.name)=some c
 cl:Cls K C
theorem OC.eq{K:O0}(o:OC K c C)(h:PySem.W.nsIn K mainGlobals c=some (some (.ref C'))):C'=C:=by have:=o.ns;rw[h]at this;cases this;rfl
section
variable{a:Expr}{g:AX}{pos apos p:Pos}
noncomputable def iS(b:D0)(a:Str):Er->Sto->R Er
 |.val (.obj c ns ds),S=>if c∈b then(match (ns.zip ds).lookup a with |some d=>.ok (.val d) S|none=>.no)else .no
 |_,_=>.no
theorem KC{K:O0}: ∀{ns:D0}{ds}{vs},DenL K α H ds vs->(ns.zip ds).lookup fld=some d-> ∃v,(ns.zip vs).lookup fld=some v/\Den K α H d v
 |[],_,_,_,h=>by simp at h
 |n::ns,[],_,_,h=>by simp at h
 |n::ns,x::ds,vs,l,h=>by
  refine l.uncons.b λv r k a j=>?_;subst k;rw[Ī,ĥ]at h;rw[Ī];by_cases e:fld==n
  .rw[e]at h;cases h;exact⟨v,by rw[ĥ,e],a⟩
  .have e:(fld==n)=false:=by simpa using e
   rw[e]at h;obtain⟨w,c,b⟩:=KC j h;exact⟨w,by rw[ĥ,e];exact c,b⟩
def Tw(T: ∀c∈cs, ∃C,OC X.K c C/\NoAttr X.K C fld)(w:zP X W e f)(hb:attributeBase e fld X.env (eval e X.env)=eval e X.env:=by rfl):zP X W (.Attribute e fld pos) (λy S=>(f y S).bind (iS cs fld)):=by
 refine w.a λt w k=>?_;refine⟨λσ H Q=>t σ H λx j=> ∃a o C m fs v,x=.ref a/\j a=some (.frz o (.ins C m fs))/\Cls X.K C/\NoAttr X.K C fld/\fs.lookup fld=some v/\Q v j,λpins s σ H Q I h=>?_,λα y S σ H Q wd sl q=>k α y S σ H _ wd sl (q.bind λu r S1 G j e1 B w1 U b=>?_)⟩
 .refine (Attribute_any_ (xV (w pins s σ H _ I h) λu s1 z0=>?_) (by rw[arm_eval_Attribute,hb]));refine z0.b λx j I1 F z0=>?_;refine z0.w λa o C m fs v z0=>?_;refine z0.g λY P c n l q=>?_;subst Y;obtain rfl:u=Value.ref a:=F;exact UX I1 P c n l λu' s2 J ru=>(ZC v j J ru q)
 .replace b:=b.shift B
  unfold iS at b;split at b
  .rename_i c ns ds;split at b
   .rename_i Z;split at b
    .rename_i d D;refine(Jz U.1).m λa C m vs o V=>V.g λac M L h3 h4 h5=>?_;subst ac;refine(T c Z).a λC' A E=>?_;cases A.eq L;refine(KC h5 D).a λv O N=>?_;exact YK a o C m _ v ⟨rfl,M,A.cl,E,O,Post.val b w1 N⟩
    .exact b.elim
   .exact b.elim
  .exact b.elim
def Y3(K:O0)(a:Str):Sp:=λc H Q _=> ∃x C b fs v,c=[.ref x,v]/\H x=some (.ins C b fs)/\Cls K C/\NoAttr K C a/\fs.length<1000/\Q .non (yV H x (.ins C b (AN a v fs)))
noncomputable def Gf(c a:Str):Er->Sto->R Er
 |.val d,S=>.ok (.val (.obj c [a] [d])) S
 |_,_=>.no
def QU(m:Str)(l:List (Str×↑16)):Er->Option ↑16
 |.val (.obj c ns _)=>if m∈ns then none else l.lookup c
 |_=>none
noncomputable def NJ(m:Str)(n:Nat)(l:List (Str×(List MV->Sto->R Er)))(f:AX)(af:Rho->Sto->R (List Er))(a:Rho)(S:Sto):R Er:=(f a S).bind λp S=>match QU m l p with
 |some F=>(af a S).bind λr S=>zE n F (p::r) S
 |none=>.no
theorem lookup_mem{β:Type}{b:β}: ∀{l:List (Str×β)},l.lookup c=some b->(c,b)∈l
 |[],h=>by simp at h
 |(d,x)::l,h=>by
  rw[ĥ]at h;by_cases e:c==d
  .rw[e]at h;cases h;have:=by simpa using e
   rw[this];exact mF0
  .have e:(c==d)=false:=by simpa using e
   rw[e]at h;exact mO _ (lookup_mem h)
theorem KD{β:Type}: ∀{ns:D0}{vs:List β},m∉ns->(ns.zip vs).lookup m=none
 |[],_,_=>by simp
 |n::ns,[],_=>by simp
 |n::ns,v::vs,h=>by
  rw[Ī,ĥ];have e:(m==n)=false:=by have:m≠n:=λz=>h (by rw[z];exact mF0);simpa using this
  rw[e];exact KD λz=>h (mO _ z)
def MtOk(X:Cx)(m:Str)(k n:Nat)(c:Str)(F:↑16):Prop:= ∃C a b ps,OC X.K c C/\Meth X.K C m a/\FnOk X.prog X.w X.K X.mg X.base tH k a b ps (JM X.g n F)/\Binds X.K b ps []
def DO{pl:Sem Bool}(T: ∀q∈l,MtOk X m k n q.1 q.2)(hr:Room k X.A)(J:zP X W o f)(P:(GY X W (e::es) af))
  (hst:q9 X e es:=by rfl) (hpl:Q1 X pos es:=by rfl)
  (ht:eval (.Call (.Attribute o m apos) (e::es) [] pos) X.env=(do
   let ov <-eval o X.env
   standAt apos.atName
   let (f,first) <-holding [ov] (getMethod ov m pl)
   callWith pos f first (backTo pos (starEach (e::es) X.env)) (backToKw pos (keywordEach [] X.env))):=by rfl):
  zP X W (.Call (.Attribute o m apos) (e::es) [] pos) (NJ m n l f af):=by
 refine J.a λto J ko=>?_;refine P.a λta P ka=>?_;refine⟨λσ H Q=>to σ H λx y=> ∃a ob C E fs g B ps L,x=.ref a/\y a=some (.frz ob (.ins C E fs))/\Cls X.K C/\Meth X.K C m g/\fs.lookup m=none/\FnOk X.prog X.w X.K X.mg X.base tH k g B ps L/\Binds X.K B ps []/\ta σ y λvs N=>L (x::vs) N Q E0,λpins s σ H Q I h=>?_,λα U S σ H Q wd sl q=>ko α U S σ H _ wd sl (Post.bind q λu r S1 G y e1 Z w1 Y j=>?_)⟩
 .refine PySem.W.methodCall_KW (xV (J pins s σ H _ I h) λu s1 z0=>?_) ht;refine z0.b λx y I1 rx z0=>?_;refine z0.v λa ob C E fs g B ps L z0=>?_;refine z0.t λex ea c D l F M q=>?_;subst ex;obtain rfl:u=Value.ref a:=rx;refine UY I1 ea c D l ?_;refine PySem.W.callWith_K I.ok.mod.kin D.kp (xV (P pos pins s1 σ y _ I1 q) λus s2 ⟨vs,N,I2,r,O⟩=>⟨I2.kIn,?_⟩) hst hpl;exact Jj (vs:=.ref a::vs) F hr M .nil Jo I2 (.cons rfl r) (by rw[aN];exact O)
 .unfold QU at j
  cases r with
  |new ds=>exact j.elim
  |val d=>
   cases d with
   |obj c ns ds=>
    dsimp only at j;by_cases v:m∈ns
    .rw[iP v]at j;exact j.elim
    .rw[iN0 v]at j
     cases z:l.lookup c with
     |none=>rw[z]at j;exact j.elim
     |some F=>
      rw[z]at j;dsimp only at j;refine(Jz Y.1).m λa C E vs ob V=>V.g λac h1 h2 h3 h4 h5=>?_;subst ac;refine(T _ (lookup_mem z)).p λC' g B ps a0=>a0.e λoc D hF M=>?_;cases oc.eq h2;refine YJ a ob C E _ g B ps _ ⟨rfl,h1,oc.cl,D,KD v,hF,M,ka G U S1 σ y _ w1 (sl.ext Z) ?_⟩;refine(Post.shift Z j).bind λus rs S2 aa N e2 x2 w2 d2 O=>?_;exact NO x2 w2 (ArgsE.cons (DenE.val (Y.1.ext x2)) (λds b er=>by cases er) d2) O
   |_=>exact j.elim
end
noncomputable def sY(y:Db):List (List Nat)->List Nat
 |[]=>[]
 |[x]=>x
 |x::r=>x++y++sY y r
theorem UZ(y): ∀zs:List (List Nat),Str.join (gO y) (zs.map gO)=gO (sY y zs)
 |[]=>rfl
 |[x]=>rfl
 |x::z::r=>by show gO x++gO y++Str.join _ _=gO (x++y++sY y _);rw[UZ y _,PH,PH]
theorem Bq{y:Str}: ∀(l:D0) n k ,(∀z∈l,z.length+y.length<=1000)->(l.length)<=k->l.foldl (λa z=>a+z.length+y.length) n<=n+1000 * k
 |[],n,k,_,_=>Nat.le_add_right _ _
 |z::l,n,0,_,h=>by simp at h
 |z::l,n,k+1,hz,h=>by
  rw[ĕ];have j:=Bq l (n+z.length+y.length) k (λw hw=>hz w (mO _ hw)) (by simpa using h);have b:=hz z mF0
  lia
theorem joinOk_of{zs:Ch}(j:y.length<=100)(c:zs.length<=1000)(b: ∀z∈zs,z.length<=900):JoinOk (gO y) (zs.map gO)=true:=by
 unfold JoinOk;rw[ė];unfold Builtin.Str.tooLong;rw[List.foldl_toArray]
 have:=Bq (y:=gO y) (zs.map gO) 0 1000 (λz a=>by
  refine(mM0.mp a).a λw hw k=>?_;subst k;have:=b w hw;rw[jN,jN]
  lia) (by rw[lM0];exact c)
 rw[ý]
 lia
noncomputable def rG:List MV->Option (List (List Nat))
 |[]=>some []
 |.str x::ds=>(rG ds).map (x::·)
 |_::_=>none
theorem Br{K:O0}: ∀{ds}{zs}{vs}{j},rG ds=some zs->DenL K α H ds vs->Vals vs j-> ∃l:List (Str×Tok),j=strValues l/\l.map (·.1)=zs.map gO
 |[],zs,vs,j,e,d,r=>by cases e;rw[d.isnil]at r;cases r;exact⟨[],rfl,rfl⟩
 |x::ds,zs,vs,j,e,d,r=>by
  refine d.uncons.b λv q o k m=>?_;subst o
  cases r with
  |cons a b=>
   cases x<;>first |(cases e)|skip
   rename_i i;unfold rG at e
   cases z:rG ds with
   |none=>rw[z]at e;cases e
   |some ms=>
    rw[z]at e;cases e;cases yX k;obtain⟨t,rfl⟩:=a;refine(Br z m b).a λl u c=>?_;subst u;exact⟨(gO i,t)::l,rfl,by rw[í,c];rfl⟩
section
variable{e:Expr}{apos pos:Pos}
open Classical in
def NY:Er->List Er->Sto->R Er
 |.val (.str y),[r],S=>match wN S r with
  |some ds=>match rG ds with
   |some zs=>if y.length<=100/\zs.length<=1000/\ ∀z∈zs,z.length<=900 then .ok (.val (.str (sY y zs))) S else .no
   |none=>.no
  |none=>.no
 |_,_,_=>.no
def Ua:Fc X W (λx xs H Q=> ∃y l vs ds zs α,x=.str (gO y)/\xs=[.ref l]/\SqL X.K H l vs/\rG ds=some zs/\DenL X.K α H ds vs/\(y.length<=100/\zs.length<=1000/\ ∀z∈zs,z.length<=900)/\Q (.str (gO (sY y zs))) H) NY:=by
 intro p C x vs α S B H Q w b c k A a
 replace a:=a.shift c
 unfold NY at a;split at a
 .split at a
  .rename_i ds e;split at a
   .rename_i zs o;split at a
    .rename_i j;refine(JL A).a λv D u=>?_;subst D;refine(qA rfl b e u).b λl m E s q=>?_;subst E;exact YK _ l m ds zs (α) ⟨gA k,rfl,s,o,q,j,Post.val a b (eA _)⟩
    .exact a.elim
   .exact a.elim
  .exact a.elim
 .exact a.elim
def Ub(K:zP X W a f)(J:(GY X W (e::es) af))
  (hbase:attributeBase a "join" X.env (eval a X.env)=eval a X.env:=by rfl)
  (hfew:((backTo pos (starEach (e::es) X.env)).all (λx=>!x.1)&&(backToKw pos (keywordEach [] X.env)).all (λx=>x.1.isSome)
   &&decide ↑6)=true:=by rfl)
  (hline:(apos.endLine==pos.line)=true:=by rfl) (hs:q9 X e es:=by rfl) (hplain:Q1 X pos es:=by rfl):
  zP X W (.Call (.Attribute a "join" apos) (e::es) [] pos) (λj S=>(f j S).bind λp m=>if JO p m=true then(af j m).bind λrs S2=>NY p rs S2 else .no):=
 PX PySem.F.plainAttrs_str PySem.F.slot_str_join PySem.F.type_str_join (by
   intro pins s σ H x xs v L Q I A rs h;refine h.w λy l M N zs α P=>P.u λT U E B w b q=>?_;subst T;subst U;obtain⟨t,rfl⟩:=A;refine(vals1 rs).a λu V D=>?_;subst V;subst D;refine(I.list E).c λG o p _=>?_;refine(Br B w o).a λps Y C=>?_;subst Y;refine PySem.SC.join p.isList C (joinOk_of b.1 b.2.1 b.2.2) λc k=>(ZC (.str _) H (I.tok _) ⟨c,?_⟩ q)
   show Value.str (Builtin.Str.glued _ _) c=_;rw[StrLaws.glued_eq_join,UZ]) Ua (by
     intro p x α S H O d h;unfold JO at h;split at h
     .cases gA d;rfl
     .cases h) K J hbase hfew hline hs hplain
end
section
variable(P:ś)(w:World)(K:O0)(mg:G0)(base:Heap)
def zBU(x b:Str):Prop:= ∃C j c a,OC K x C/\NoAttr K C b/\Mk K C j/\FnOk P w K mg base tH 1 j c ["self",a] (Y3 K b)/\Binds K c ["self",a] []/\mg x=some (.ref C)
def zDF(m:Str)(k n:Nat)(l:List (Str×↑16)):Prop:= ∀q∈l, ∃C a b ps,OC K q.1 C/\Meth K C m a/\FnOk P w K mg base tH k a b ps (JM ⟨K,mg,P,w⟩ n q.2)/\Binds K b ps []
def FlB(b:D0)(a:Str):Prop:= ∀c∈b, ∃C,OC K c C/\NoAttr K C a
end
section
variable{pos p:Pos}{x:Str}
def KE(B:zBU X.prog X.w X.K X.mg X.base x fld)(hr:Room 2 X.A)(hg:Gl X x)(D:zP X W e f)(J:(x==("__debug__"))=false:=by decide)
  (hs:starEach [e] X.env=(false,eval e X.env)::starEach [] X.env:=by rfl) (hpl:(backTo pos (starEach [] X.env)).any (·.1)=false:=by rfl):zP X W (.Call (.Name x p) [e] [] pos) (λG S=>(f G S).bind (Gf x fld)):=by
 refine B.q λC fi fd U k Y mk F hb hm=>?_;exact (by
   refine D.a λt D kk=>?_;refine⟨λσ H Q=>Xi C (Y3 X.K fld) [] E0 (Xh t zAH) σ H λy m=> ∃x a v,y=.ref x/\m x=some (.ins C a [(fld,v)])/\Q (.ref x) (yV m x (.frz (PySem.W.instObj C a) (.ins C a [(fld,v)]))),λpins s σ H Q I h=>?_,λα G S σ H Q wd sl q=>kk α G S σ H _ wd sl (q.bind λu r S1 Z H1 e1 P N d1 b=>?_)⟩
   .refine xV (Qg mk F hr hg hm hb .nil Jo (aY D BO hs) J hs hpl pins s σ H _ I h) λu s' z0=>?_;refine z0.b λy m I2 T z0=>?_;refine z0.i λx a v z0=>?_;refine z0.f λex e q=>?_;subst ex;exact ZC _ _ (I2.freeze e) T q
   .replace b:=b.shift P
    unfold Gf at b;split at b
    .rename_i d;intro y a hy j E;refine⟨y,C,a,[],u,rfl,zO,k.cl,Y,by decide,rfl,y,a,u,rfl,zO,?_⟩;rw[ZW,ZW];have O:=N.newx (o:=.own y) j;have M:=N.new (o:=.own y) j;have c:(yV H1 a (.own y)) y=none:=by rw[zD (Ne.symm E)];exact hy
     have L:=M.newx (o:=.frz (PySem.W.instObj C a) (.ins C a [(fld,u)])) c;have wb:=M.new (o:=.frz (PySem.W.instObj C a) (.ins C a [(fld,u)])) c;exact Post.val (b.shift (O.trans L)) wb (Ak zO k.ns k.nm rfl (zV ((d1.1.ext O).ext L) yA))
    .exact b.elim)
end
def nm_of{K:O0}(e:PySem.W.clsIn K C=some cd)(h:cd.name=c):(PySem.W.clsIn K C).map (·.name)=some c:=by rw[e];exact congrArg some h
section
variable{es:N0}{pos apos:Pos}
def Ud:Er->List Er->Sto->R Er
 |p,[r],S=>match Ik S r with
  |some zs=>MM p S λds=>if ds.length+zs.length<=sizeLine then some (ds++zs)else none
  |none=>.no
 |_,_,_=>.no
def Gg:Fc X W Ag Ud:=by
 intro p J x L α S F H Q o u E y m a
 match J,m,a with
 |[],_,a=>exact a.elim
 |_::_::_,_,a=>exact a.elim
 |[r],m,a=>
  have a:Post X.g W o F (match Ik S r with |some zs=>MM p S λs=>if s.length+zs.length<=sizeLine then some _ else none|none=>.no) Q:=a;split at a
  .rename_i zs B;refine(JL m).a λv M I=>?_;subst M;refine(QG u B I).b λb A N K w=>?_;subst N;refine(NQ u E y a).l λc D s es O C q j k=>?_;subst O;split at j
   .rename_i G;cases j;exact Zw c b D A ⟨rfl,rfl,C,K,(by rw[q.length,w.length];exact G),k _ (q.append w)⟩
   .cases j
  .exact a.elim
def Gh(L:zP X W a f)(G:(GY X W (e::es) af))
  (hbase:attributeBase a "extend" X.env (eval a X.env)=eval a X.env:=by rfl)
  (hfew:((backTo pos (starEach (e::es) X.env)).all (λx=>!x.1)&&(backToKw pos (keywordEach [] X.env)).all (λx=>x.1.isSome)
   &&decide ↑6)=true:=by rfl)
  (hline:(apos.endLine==pos.line)=true:=by rfl) (hs:q9 X e es:=by rfl) (hplain:Q1 X pos es:=by rfl):
  zP X W (.Call (.Attribute a "extend" apos) (e::es) [] pos) (λy S=>(f y S).bind λp B=>if gU p B=true then(af y B).bind λrs S2=>Ud p rs S2 else .no):=
 PX PySem.F.plainAttrs_list PySem.F.slot_list_extend PySem.F.type_list_extend (by
   intro pins s σ H x P v N Q I C w h;refine h.q λl b xs zs V Y o J O q=>?_;subst V;subst Y;subst C;refine w.one.a λu Z M=>?_;subst Z;subst M;have⟨z,j,n,r,U,e⟩:=I.lstM o;have⟨T,c,D,A,K,E⟩:=I.lstM J;have m:j.toArray.size+c.toArray.size<=sizeLine:=by refine qq sA (qq sA ?_);lia
   have k: ¬(!j.toArray.isEmpty&&Builtin.List.listTooLong (j.toArray.size+c.toArray.size))=true:=by rw[TH m,Bool.and_false];exact xF0
   refine call_meets F.slot_list_extend ⟨_,e,rfl⟩ F.entry_list_extend (F.args_list_extend_2 _ _)
    (AutoSeq1.list_extend_list_list_0 l j.toArray n b c.toArray D k (by rw[sA];lia) #[0]) ⟨e,E,?_⟩
   refine ZC .non _ (I.lset o e (by simp) (r.append A) ?_) rfl q;rw[lA]
   omega) Gg Li L G hbase hfew hline hs hplain
end
theorem args_sorted1(a):argsOk "sorted" ⟨[a],[]⟩:=by unfold argsOk;kernel_rfl
open Classical in
def _root_.L2.Room.u128{k:Nat}{A:Around}(r:Room k A):A.units+128<cLine:=by have:=r.un;omega
section
def NZ(d:MV):Prop:= ∃x r,d=.tup (.int x::r)
theorem Ue(I:↑1)(B:↑19)(hu:A.units+64<cLine){k:Bool}(kd:NZ d)(kf:NZ f)(Z:Den X.K α H d x)(Y:Den X.K α H f y)(W:RelV x u)(T:RelV y v)
  (h:IB S zL d f=some k) (prog) (w) (E) (Q) (hq:Q k s):wpAny ↑3 A (keyLt' (tuples' true) u v) Q E s:=by
 refine kd.j λm N V=>?_;subst V;refine kf.j λo C ac=>?_;subst ac;refine(YF I Z W).o λa1 U L al l1 v1 t1 _=>?_;subst al;refine(YF I Y T).o λa2 P G am l2 v2 O _=>?_;subst am;refine l1.uncons.b λw1 q1 ap J m1=>?_;subst ap;refine l2.uncons.b λw2 q2 a9 M m2=>?_;subst a9
 cases v1 with
 |@cons _ u1 _ us1 rv1 rr1=>
  cases v2 with
  |@cons _ u2 _ us2 rv2 rr2=>
   have h':(eqv S 39 (.int m) (.int o)).bind (λk=>if k=true then UE _ _ N C else IB S 39 _ _)=some k:=h;have F:eqv S 39 _ _=some _:=IC 38 m o;have ea:=FB I B 39 A _ _ _ _ _ _ _ #[0] J M rv1 rv2 F;cases yI J;cases yI M;obtain⟨ab,rfl⟩:=rv1;obtain⟨aa,rfl⟩:=rv2;rw[F]at h';refine Srt.wp_keyLtI t1 O ea ?_ hq
   cases D:decide (m=o)with
   |true=>
    rw[D]at h';have j:UE _ _ N C=some k:=h'
    exact zBS (Kr (λd f x y u v k a b c q e=>FB I B 39 A d f x y u v k #[0] a b c q e)
     (λd f x y u v k a b c q e=>XO I B 39 A d f x y u v k #[0] a b c q e) m1 m2 rr1 rr2 j)
   |false=>
    rw[D]at h';have j:_=some k:=h';cases j;rfl
theorem zBV(I:↑1)(wd:↑19)(hu:A.units+64<cLine)(hne:kds≠[])(hkind: ∀d,d∈kds->NZ d)(ho:OrdD S kds):
  Srt.Cmp ↑5 A E' s (tuples' true) (λp=> ∃d v,d∈kds/\Den X.K α H d v/\RelV v p.1) (ltV X.K α H S kds) where
 go x y hx hy st hk Q hq:=by
  refine(JX hx).a λv1 d1 r1=>?_;refine(JX hy).a λv2 d2 r2=>?_;obtain⟨t,ht⟩:=ho.any _ (cQ hne x.1) _ (cQ hne y.1);have e:ltV X.K α H S kds x y=t:=by unfold ltV;rw[ht];rfl
  rw[e]at hq;exact Srt.wp_lt hk (λE Q hq=>Ue I wd hu (hkind _ (cQ hne x.1)) (hkind _ (cQ hne y.1)) d1 d2 r1 r2 ht X.prog X.w E Q hq) hq
 tr x y z h1 h2:=by unfold ltV at h1 h2 ⊢;have mx:=cQ (K:=X.K) (α:=α) (H:=H) hne x.1;have my:=cQ (K:=X.K) (α:=α) (H:=H) hne y.1;have mz:=cQ (K:=X.K) (α:=α) (H:=H) hne z.1;obtain⟨t1,e1⟩:=ho.any _ my _ mx;obtain⟨t2,e2⟩:=ho.any _ mz _ my;rw[e1]at h1;rw[e2]at h2;have h1:=h1;have h2:=h2;subst h1 h2;rw[ho.tr _ mx _ my _ mz e1 e2];rfl
 as x y h:=by unfold ltV at h ⊢;have mx:=cQ (K:=X.K) (α:=α) (H:=H) hne x.1;have my:=cQ (K:=X.K) (α:=α) (H:=H) hne y.1;obtain⟨t1,e1⟩:=ho.any _ mx _ my;rw[e1]at h;have h:=h;subst h;rw[ho.as _ mx _ my e1];rfl
def L8(I:↑1)(m:kds≠[])(b: ∀d,d∈kds->NZ d)(y:DenL X.K α H kds kvs)(j:Vals kvs ks):
  wpAny ↑5 A (keyKind' ks.toArray) (λq N=>N=s/\q=tuples' true) E' s:=by
 have ne:ks≠[]:=λz=>by have c:=(j.length);have k:=y.length;rw[z]at c;exact m (List.length_eq_zero_iff.mp (by rw[<-k,c];rfl))
 have all: ∀u,u∈ks-> ∃d v,d∈kds/\Den X.K α H d v/\RelV v u:=by
  intro u o;obtain⟨i,hi⟩:=getElem?_of_mem o;have B:i<kvs.length:=by rw[(j.length)];exact(gS.mp hi).1
  refine(j.get (gE B)).a λP c r=>?_;rw[hi]at c;cases c;refine(y.get (gE B)).a λd k G=>?_;exact ZC d _ (ë k) G r
 refine Srt.wp_kindI ne λu o=>?_;refine(all u o).b λd v E D r=>?_;refine(b d E).j λx O T=>?_;subst T;refine(YF I D r).o λa M J U l C t _=>?_;subst U;refine l.uncons.b λL Q V F _=>?_;subst V
 cases C with
 |@cons _ u1 _ us1 rv rr'=>
  cases yI F;obtain⟨tk,rfl⟩:=rv;exact Zp a _ _ tk us1 ⟨rfl,t,rfl⟩
end
section
theorem Gi(hu:X.A.units+128<cLine)(I:↑1)(wd:↑19)(hl:SqL X.K H l xs)(G:DenL X.K α H ds xs)
  (hlen:↑13<64) (hpu: ∀d,d∈ds->qE d=true) (hkd:2<=↑13-> ∀d,d∈ds->NZ d) (hord:OrdD S ds) 
  (hQ: ∀(m:Db) p  ys ,m.Perm (List.range ↑13)->m.Pairwise (λi j=> ∀a c,ds[i]? =some a->ds[j]? =some c->IB S zL c a=some false)->H p=none->
   DenL X.K α H (m.filterMap (ds[·]?)) ys->Q (.ref p) (yV H p (.lst ys))):wpAny ↑5 X.A (call (.builtin "sorted") [.ref l]) (EP X pins σ Q) X.xe s:=by
 refine(I.list hl).c λk D V _=>?_;obtain ⟨o,n0,e0,Z,_,aa⟩:=V;have ae:s.heap.IsList l k.toArray:=⟨o,e0,Z,n0,aa⟩
 have y:k.length=ds.length:=by rw[<-D.length,G.length]
 have ai:=ý;refine call_function_entry_kw kind_sorted plain_sorted entry_sorted (args_sorted1 _) ?_;unfold Builtin.«sorted»;rw[21];refine wB (collect_list ae ?_ #[0]);refine wB (wpAny_newList ?_);generalize P:(s.heap.push (seqObj "list" #[] 0)).update s.heap.objs.size (Obj.mapSeq (· ++k.toArray))=h1;have aj:h1.objs.size=↑0+1:=by rw[<-P,Heap.size_update,size_push']
 have k1: ∀b u,s.heap.get? b=some u->h1.get? b=some u:=λb u e=>by rw[<-P,ù _ _ (Ĕ (â e))];exact hP0 _ e
 have E:(h1.push (seqObj "list" k.toArray 0)).get? h1.objs.size=some (seqObj "list" k.toArray 0):=ã _ rfl;show wpAny _ _ _ _ _ {s with heap:=h1.push (seqObj "list" k.toArray 0)};dsimp only;generalize hL:h1.objs.size=L at *;have N:↑0<=L:=by lia
 refine wB (û (wpAny_call_entry_kw slot_list_sort (Z0 _ E rfl) entry_list_sort (Srt.sort_plainS E #[0] λJ C=>?_) ((by unfold argsOk;kernel_rfl))));dsimp only at C;generalize ag:h1.push (seqObj "list" k.toArray 0)=h2 at *;have fL:CS X pins H L:=I.fpOk N (I.hok.fresh N);have k3: ∀b u,s.heap.get? b=some u->J.heap.get? b=some u:=λb u e=>by rw[C];refine hP0 _ (hP0 _ ?_);rw[ù _ _ (Ĕ (ê (â e) N)), <-ag];exact hP0 _ (k1 b u e)
 have O:Inv X pins σ H J:=by have:=I.kept (t':=s.toks) k3;rw[C]at this ⊢;exact this
 have ah:X.A.in1.in1.units+64<cLine:=by show X.A.units+1+1+64<cLine;lia
 obtain⟨q,gL⟩: ∃q,J.heap.get? L=some (seqObj "list" #[] q):=by rw[C];exact⟨_,hP0 _ (hP0 _ (get?_update_seq E (λ_=>#[])))⟩
 refine Zc (tuples' true) (λp=> ∃d v,d∈ds/\Den X.K α H d v/\RelV v p.1) (ltV X.K α H S ds) (λF=>?_) (λout op os=>?_)
 .have ne:ds≠[]:=λz=>by rw[y,z]at F;exact absurd F ↑4
  have B:=hkd (y▸F);refine⟨L8 O ne B G D,zBV O wd ah ne B hord,λp hp=>?_⟩;have ab:p.1∈k:=(of_mem_zip hp).1;obtain⟨i,hi⟩:=getElem?_of_mem ab;have T:i<xs.length:=by rw[D.length];exact(gS.mp hi).1
  refine(D.get (gE T)).a λu' M r=>?_;rw[hi]at M;cases M;refine(G.get (gE T)).a λd Y W=>?_;exact ZC d _ (ë Y) W r
 .refine(NW op.symm (List.range ↑13) (Gc y y)).a λm ip ie=>?_;have U: ∀i,i∈m->i<ds.length:=λi hi=>ú.mp (ip.mem_iff.mp hi);have eo:out.map (·.2)=m.filterMap (k[·]?):=by rw[<-ie,ą];exact JY λi hi=>by rw[y];exact U i hi
  have po:m.Pairwise (λi j=> ∀a c,ds[i]? =some a->ds[j]? =some c->IB S zL c a=some false):=by rw[<-ie,ň]at os;refine List.Pairwise.imp_of_mem (λ{i j} hi hj h a c ha hc=>?_) os;have ui:k[i]? =some (k[i]'(by rw[y];exact U i hi)):=gE _;have uj:k[j]? =some (k[j]'(by rw[y];exact U j hj)):=gE _;have h':(IB S zL _ _).getD false=false:=h;rw[ui,uj]at h';simp only[Option.getD_some]at h';rw[Mj O wd G D ui ha,Mj O wd G D uj hc]at h';obtain⟨t,ht⟩:=hord.any c (ë hc) a (ë ha);rw[ht]at h';have h':t=false:=h';rw[ht,h']
  have vy:=Vals.pick D m;refine Z0 _ rfl (wP ⟨_,rfl,.ref L,_,?_,rfl,hQ m L _ ip po (I.hok.fresh N) (G.pick m)⟩);refine fL.g λf0 f1 f2 f3 f4 f5=>?_
  have I6:Inv X pins σ H {J with heap:=J.heap.update L (Obj.mapSeq λ_=>(out.map (·.2)).toArray)}:=
   O.turned (λb o hb e=>(ù _ _ (Ne.symm hb)).trans e) f0 f1 f3 f4 f5
  obtain⟨n',af⟩: ∃n',(J.heap.update L (Obj.mapSeq λ_=>(out.map (·.2)).toArray)).get? L=some _:=⟨_,by have:=get?_update_seq gL (λ_=>(out.map (·.2)).toArray);rw[eo]at this ⊢;exact this⟩
  refine Gb I6 ⟨f0,f1,f2,f3,f4,f5⟩ (ì I.sz N) af vy ?_
  .have:=List.length_filterMap_le (xs[·]?) m;have h3:=ip.length_eq;rw[ò]at h3
   lia
end
structure SrtJ(S:Sto)(ds:Q0):Prop where
 len:↑13<64
 pu: ∀d,d∈ds->qE d=true
 kind:2<=↑13-> ∀d,d∈ds->NZ d
 ord:OrdD S ds
open Classical in
def KF(rs:List Er)(S:Sto):R Er:=match rs with
 |[p]=>match wN S p with
  |some ds=>if h: ∃r,SrtJ S ds/\ ∀a,Bo S ds ds a->a=r then .ok (.new (Classical.choose h)) S else .no
  |none=>.no
 |_=>.no
def Ug(e:wN S p=some ds)(ok:SrtJ S ds)(u: ∀j,Bo S ds ds j->j=r)(b:Bo S ds ds r):KF [p] S=.ok (.new r) S:=by
 unfold KF;dsimp only;rw[e];dsimp only;have h: ∃r,SrtJ S ds/\ ∀j,Bo S ds ds j->j=r:=(Z0 r ok u)
 rw[dif_pos h];obtain⟨_,a⟩:=Ć h;rw[<-a r b]
section
def Gj(o:X.A.units+128<cLine):CallR X (.builtin "sorted") (λxs H Q=> ∃α S l vs ds,xs=[.ref l]/\Wd X.g α S H/\SqL X.K H l vs/\DenL X.K α H ds vs/\SrtJ S ds/\
  ∀(k:Db) p  ys ,k.Perm (List.range ↑13)->k.Pairwise (λi j=> ∀a c,ds[i]? =some a->ds[j]? =some c->IB S zL c a=some false)->H p=none->DenL X.K α H (k.filterMap (ds[·]?)) ys->Q (.ref p) (yV H p (.lst ys))):=by
 intro pins s σ H xs y Q I r h;refine h.m λα S l vs ds B=>B.g λC m w b ok q=>?_;subst C;refine(vals1 r).a λu D v=>?_;subst D;subst v;exact Gi o I m w b ok.len ok.pu ok.kind ok.ord q
def Uh:aT X W (λxs H Q=> ∃α S l vs ds,xs=[.ref l]/\Wd X.g α S H/\SqL X.K H l vs/\DenL X.K α H ds vs/\SrtJ S ds/\
  ∀(k:Db) p  m ,k.Perm (List.range ↑13)->k.Pairwise (λi j=> ∀a c,ds[i]? =some a->ds[j]? =some c->IB S zL c a=some false)->H p=none->DenL X.K α H (k.filterMap (ds[·]?)) m->Q (.ref p) (yV H p (.lst m))) KF:=by
 intro F vs α S H Q o d b;unfold KF at b;split at b
 .split at b
  .rename_i ds e;split at b
   .rename_i h;refine(eZ d).a λv G E=>?_;subst G;refine(qA rfl o e E).b λl w I A y=>?_;subst I;obtain⟨ok,u⟩:=Ć h;refine Zp (α) S l w ds ⟨rfl,o,A,y,ok,(λk p m C D B q=>?_)⟩;have s:=u _ (ZB k C D rfl);rw[s]at q;exact Post.newl b o B q
   .exact b.elim
  .exact b.elim
 .exact b.elim
end
section
variable{X:Cx}{a i e:Expr}{α:B9}{H:Hp}{pins:L0}{σ:St}{s:ř}
def L9:MV->Option Key
 |.int i=>some (.inl i)
 |.str x=>some (.inr (gO x))
 |_=>none
def Gk: ∀{k}{k'},L9 k=some k'->KeyD k k'
 |.int i,_,h=>by cases h;exact rfl
 |.str x,_,h=>by cases h;exact rfl
 |.non,_,h=>nomatch h
 |.bl _,_,h=>nomatch h
 |.tup _,_,h=>nomatch h
 |.scr _,_,h=>nomatch h
 |.loc _,_,h=>nomatch h
 |.typ _,_,h=>nomatch h
 |.obj _ _ _,_,h=>nomatch h
def Gn: ∀{k}{k'}{v},L9 k=some k'->Den X.K α H k v->v=kV k'
 |.int i,_,_,h,d=>by cases h;exact yI d
 |.str x,_,_,h,d=>by cases h;exact yX d
 |.non,_,_,h,_=>nomatch h
 |.bl _,_,_,h,_=>nomatch h
 |.tup _,_,_,h,_=>nomatch h
 |.scr _,_,_,h,_=>nomatch h
 |.loc _,_,_,h,_=>nomatch h
 |.typ _,_,_,h,_=>nomatch h
 |.obj _ _ _,_,_,h,_=>nomatch h
def OA: ∀{k}{u},RelV (kV k) u->(jM X.prog X.w).is k u=true
 |.inl i,_,h=>by obtain⟨t,rfl⟩:=(h: ∃t,_=_);exact GQ _ _ i t
 |.inr x,_,h=>by obtain⟨t,rfl⟩:=(h: ∃t,_=_);exact tK _ _ x t
theorem Ui: ∀{k}{u},RelV (kV k) u->(keyPart u).isSome=true
 |.inl i,_,h=>by obtain⟨t,rfl⟩:=(h: ∃t,_=_);rfl
 |.inr x,_,h=>by obtain⟨t,rfl⟩:=(h: ∃t,_=_);rfl
def AR(k:MV):Bool:=(L9 k).isSome
def zBW(ob:ObD X.g α H d (.dic kvs))(c:kvs.all (λp=>AR p.1)=true): ∃j,DK X H d j/\DenK X.K α H kvs j:=by
 rcases ob with⟨j,h,l⟩|⟨xs,h,l⟩
 .exact(Z0 j (.inl h) l)
 .cases l with
  |nil=>exact Z0 ([]) (.inr ⟨rfl,h⟩) .nil
  |@cons k nk a d v u fs xs hn e ha hd r l=>
   rw[List.all_cons,aE]at c;obtain⟨m,b⟩:=ü.mp c.1;have:=Gn b ha;cases m<;>cases this
def BV(S:Sto):Er->Option (Nat×List (MV×MV))
 |.val (.loc l)=>match S[l]? with
  |some (.dic kvs)=>if kvs.all (λp=>AR p.1)=true then some (l,kvs)else none
  |_=>none
 |_=>none
def Uj(m:↑19)(e:BV S r=some (l,kvs))(d:(DenX X.K α H r x)):
  ∃c j,x=.ref c/\α[l]? =some c/\S[l]? =some (.dic kvs)/\DK X H c j/\DenK X.K α H kvs j/\kvs.all (λp=>AR p.1)=true:=by
 unfold BV at e;split at e
 .rename_i n;refine(eW d).a λc o h=>?_;subst o;split at e
  .rename_i j b;split at e
   .rename_i a;obtain⟨rfl,rfl⟩:=Prod.mk.inj (å e);refine(zBW (m.obj _ c _ h b) a).a λxs k l=>?_;exact Zb c xs ⟨rfl,h,b,k,l,a⟩
   .cases e
  .cases e
 .cases e
def Ms(dd:DK X H d ks):X8 (H d):=by rcases dd with z|⟨_,z⟩<;>rw[z]<;>exact trivial
def Mt{c:Type}[DecidableEq c]{knd:KeyKind prog w c}{k:c}{f:c->Option Ś}(a:knd.is k key=true)(m:(d==sysModules)=false)(b:s.heap.MapOf knd d f)
  (h:Q (.bool !(f k).isSome) {s with toks:=s.toks+1}):wpAny ↑3 A (compareOp .NotIn key (.ref d)) Q E s:=by
 show wpAny _ _ _ Q E s;refine wB ?_;unfold contains
 try with_reducible refine û ?_
 refine wB (ĺ b.typeIs slot_dict_contains.lookup ?_);show wpAny _ _ _ _ E s
 refine wB (wpAny_callSpecialUnlessNone?_slot b.typeIs slot_dict_contains
  (õ slot_dict_contains b.typeIs entry_dict_contains ?_ (args_dict_contains _ _)))
 show wpAny _ _ (dictGet d key >>= _) _ _ s;refine wB (wpAny_dictGet_of a b ?_)
 cases j:f k with
 |some v=>
  rw[j]at h;(show wpAny _ _ _ _ _ _);exact wP (Z0 _ rfl (ĉ (wP h)))
 |none=>
  rw[j]at h;(show wpAny _ _ _ _ _ _);exact wB (wpAny_pendingKey_other m (wP (Z0 _ rfl (ĉ (wP h)))))
abbrev M1(X:Cx)(a:Bool):R2:=λx y H Q=> ∃(b:List (Key×V))(d:Addr)(k:Key),x=kV k/\y=.ref d/\DK X H d b/\
 Q (.bl (if a=true then !(jC b k).isSome else(jC b k).isSome)) H
theorem look_same(r:KV ks vs)(k):(valueAt vs k).isSome=(jC ks k).isSome:=by
 obtain⟨a,b⟩:=DM r k
 cases h:jC ks k with
 |none=>rw[b h];rfl
 |some v=>refine(a v h).a λu e _=>?_;rw[e];rfl
def KG(a:Bool)(p q:Er)(S:Sto):R Er:=match p with
 |.val k=>match BV S q with
  |some (_,kvs)=>if AR k=true then .ok (.val (.bl (if a=true then !(look kvs k).isSome else(look kvs k).isSome))) S else .no
  |none=>.no
 |_=>.no
def Bs:PR X W (M1 X neg) (KG neg):=by
 intro p q x y α S H Q o C F a;unfold KG at a;split at a
 .rename_i k;split at a
  .rename_i l j e;split at a
   .rename_i D;refine(Uj o e F).j λc m G=>G.g λI _ _ A w _=>?_;subst I;obtain⟨s,b⟩:=ü.mp D;refine Zq m c s (Gn b C) rfl A ?_;rw[(show (jC m s).isSome=(look j k).isSome by
     obtain⟨B,E⟩:=qF w (Gk b)
     cases h:look j k with
     |none=>rw[E h];rfl
     |some v=>refine(B v h).a λu e _=>?_;rw[e];rfl)];exact Post.val a o (xI _)
   .exact a.elim
  .exact a.elim
 .exact a.elim
def M3(D:zP X W a f)(F:zP X W b g)(w:behindInMarks .In b=false:=by with_unfolding_all rfl):BB X W (.Compare a [.In] [b] pos) (λj S=>((f j S).bind λp B=>(g j B).bind λq S2=>KG false p q S2).bind gB):=BQ (by intro pins s σ H x y v u Q I C A h;refine h.i λm d k J=>J.e λK L o q=>?_;subst K;subst L;subst A;obtain⟨_,hs,G,c,E⟩:=eB I o;refine wpAny_in_of (OA C) hs E.mapOf ?_;refine qq (look_same c k) ?_;exact ZC (.bl (jC m k).isSome) H (I.kept (λ_ _ z=>z)) rfl q) Bs D F w
def Gr(D:zP X W a f)(F:zP X W b g)(w:behindInMarks .NotIn b=false:=by with_unfolding_all rfl):BB X W (.Compare a [.NotIn] [b] pos) (λj S=>((f j S).bind λp B=>(g j B).bind λq S2=>KG true p q S2).bind gB):=BQ (by intro pins s σ H x y v u Q I C A h;refine h.i λm d k J=>J.e λK L o q=>?_;subst K;subst L;subst A;obtain⟨_,hs,G,c,E⟩:=eB I o;refine Mt (OA C) hs E.mapOf ?_;refine qq (look_same c k) ?_;exact ZC (.bl !(jC m k).isSome) H (I.kept (λ_ _ z=>z)) rfl q) Bs D F w
end
section
variable{X:Cx}{a b o i e:Expr}{apos pos:Pos}{α:B9}{H:Hp}{σ:St}
noncomputable def KH(b:List (Key×V))(k:Key):List (Key×V):=b.filter λa=>decide (a.1≠k)
theorem Bt: ∀{j}{vs},KV j vs-> ∀ k ,KV (KH j k) (without vs k)
 |_,_,.nil,k=>.nil
 |(a,x)::j,(b,u)::vs,.cons ⟨h1,h2⟩ l,k=>by
  cases h1;have m:=Bt l k;unfold KH without at m ⊢;by_cases c:a=k
  .simp only[List.filter_cons,c,ne_eq];exact m
  .simp only[List.filter_cons,c,ne_eq,if_true];exact .cons ⟨rfl,h2⟩ m
def Mu(a:Y0)(k:MV):List (MV×MV):=a.filter λp=>!decide (p.1=k)
theorem OB: ∀{j}{q}{k}{k'},DenK X.K α H j q->KeyD k k'->DenK X.K α H (Mu j k) (KH q k')
 |_,_,_,_,.nil,_=>.nil
 |_,_,k,k',.cons (k:=k0) (k':=k0') h1 h2 l,hk=>by
  have m:=OB l hk;unfold Mu KH at m ⊢;by_cases c:k0=k
  .subst c;have e:=IF h1 hk;simp only[List.filter_cons,e,ne_eq];exact m
  .have a: ¬k0'=k':=λz=>c (DI h1 (z▸hk));simp only[List.filter_cons,c,a,ne_eq,if_true];exact .cons h1 h2 m
def Xy(X:Cx):V->List V->Hp->VK->Prop:=λx b H Q=> ∃(a:List (Key×V))(d:Addr)(k:Key)(y:V),x=.ref d/\b=[kV k,y]/\DK X H d a/\
 (∀v,jC a k=some v->Q v (yV H d (.dK (KH a k))))/\(jC a k=none->Q y H)
theorem Uk:Y1 X "dict.pop" (Xy X):=by
 intro pins s σ H x J v us Q I P L h;refine h.l λj d k y V ac C U Z=>?_;subst V;subst ac;refine(vals2 L).b λu1 M al K O=>?_;subst al;subst P;have W:s.TypeIs _ "dict":=(QT pins s σ H (.ref d) _ I rfl (Zy d j rfl C)).1;obtain⟨z,hs,J,D,E⟩:=eB I C;have hl:(j.length)=J.length:=Paired.length D;obtain⟨T,S⟩:=DM D k;have a:=OA (X:=X) K;have c:=Ui K;refine õ PySem.F.slot_dict_pop W PySem.F.entry_dict_pop ?_ (PySem.F.args_dict_pop_3 _ _ _);unfold Builtin.«dict.pop»;refine wB ?_;unfold Builtin.Dict.keyAndDefault;refine wB (wpAny_notOrdered_dict E.typeIs ?_);show wpAny _ _ _ _ _ s;refine wP ?_;simp only[c,if_true];rw[21];simp only[fT0,iF]
 cases w:jC j k with
 |some v=>
  refine(T v w).a λu e ru=>?_;refine wB (wpAny_takeOut_pairs a E (λhn=>by rw[hn]at e;exact nomatch e) λen _ o h' m A=>?_);have B:en.val=u:=by rw[e]at o;injection o with o;exact o.symm
  simp only[Option.isNone_some,fT0,iF];refine wB (wpAny_letGo (wP ⟨_,rfl,v,_,?_,by rw[B];exact ru,U v w⟩));have G: ∃q,h'.get? d=some q:=let ⟨q,_,_,N,_⟩:=m;⟨q,N⟩;exact I.write (Ms C) (.inl rfl) (λb uo hb Y=>(A.2 b hb).trans Y) G ⟨by have:=(show (KH j k).length<=(j.length) from ÿ _ _);lia,hs,_,Bt D k,m⟩
 |none=>
  have e:=S w;refine wB (wpAny_takeOut_pairs_none a E e ?_);simp only[Option.isNone_none,if_true];refine wB (wpAny_missedRemoval_other hs ?_);exact wB (ĩ (wP ⟨M,rfl,y,H,I.tok _,O,Z w⟩))
def OD(p:Er)(rs:List Er)(S:Sto):R Er:=match rs with
 |[.val k,.val y]=>match BV S p with
  |some (l,kvs)=>if AR k=true then(match look kvs k with |some d=>.ok (.val d) (S.set l (.dic (Mu kvs k)))|none=>.ok (.val y) S)else .no
  |none=>.no
 |_=>.no
def Ul:Fc X W (Xy X) OD:=by
 intro p rs x Y α S H0 H Q U u G L O a;unfold OD at a;split at a
 .rename_i k y
  cases O with
  |cons dk n1 l1=>
   cases l1 with
   |cons dy n2 l2=>
    cases l2;split at a
    .rename_i l s T;split at a
     .rename_i A;refine(Uj u T L).j λc D V=>V.g λac I Z b C _=>?_;subst ac;obtain⟨K,q⟩:=ü.mp A;have J:=Gk q;obtain⟨E,N⟩:=qF C J;have M:=Gn q dk.1;subst M;refine Zw D c K _ ⟨rfl,rfl,b,(λv j=>?_),(λj=>?_)⟩
      .cases m:look s k with
       |some d=>
        refine(E d m).a λP B F=>?_;rw[B]at j;cases j;rw[m]at a;have w:=u.writex I b.nf (o:=.dK (KH D K));exact(Post.shift (G.trans w) a).val (u.write I b.nf (.inl ⟨_,zO,(OB C J).ex0 w.toEx0⟩)) (F.ext w)
       |none=>rw[N m]at j;cases j
      .cases m:look s k with
       |some d=>refine(E d m).a λP B F=>?_;rw[B]at j;cases j
       |none=>
        rw[m]at a;exact(Post.shift G a).val u dy.1
     .exact a.elim
    .exact a.elim
 .exact a.elim
def KI(p:Er)(S:Sto):Bool:=(BV S p).isSome
def Um(w:zP X W o f)(y:(GY X W (e::es) af))
  (hbase:attributeBase o "pop" X.env (eval o X.env)=eval o X.env:=by rfl)
  (hfew:((backTo pos (starEach (e::es) X.env)).all (λx=>!x.1)&&(backToKw pos (keywordEach [] X.env)).all (λx=>x.1.isSome)
   &&decide ↑6)=true:=by rfl)
  (hline:(apos.endLine==pos.line)=true:=by rfl) (hs:q9 X e es:=by rfl) (hplain:Q1 X pos es:=by rfl):
  zP X W (.Call (.Attribute o "pop" apos) (e::es) [] pos) (λj S=>(f j S).bind λp m=>if KI p m=true then(af j m).bind λrs S2=>OD p rs S2 else .no):=by
 refine w.a λT w I=>?_;refine y.a λt y k=>?_;refine Z0 _ (Mn QT PySem.F.plainAttrs_dict PySem.F.slot_dict_pop PySem.F.type_dict_pop Uk w y hbase hfew hline hs hplain) (λα j S σ H Q N sl q=>I α j S σ H _ N sl (q.bind λu p m a C Y A E D v=>?_));split at v
 .rename_i s;obtain⟨⟨l,P⟩,s⟩:=ü.mp s;refine(Uj E s D.1).j λc xs V=>V.h λZ _ _ K _=>?_;subst Z;exact⟨(Zy c xs rfl K),k a j m σ C _ E (sl.ext A) ((v.shift A).bind λJ rs S2 b G U B M O L=>Ul p rs _ J b S2 C G Q a M B (D.1.ext B) O L)⟩
 .exact v.elim
def OE: ∀{m},KV ks vs->m.length=(vs.length)->(∀(j:Nat) v ,m[j]? =some v-> ∃(k:Key)(x:Ś),vs[j]? =some (k,x)/\(jM X.prog X.w).is k v=true)->Vals (ks.map λp=>kV p.1) m:=by
 intro m s
 induction s generalizing m with
 |nil=>intro c _;cases m with
  |nil=>exact .nil
  |cons a b=>simp at c
 |@cons p q ps qs h t ih=>
  intro c o
  cases m with
  |nil=>simp at c
  |cons a b=>
   refine(o 0 a rfl).d λk x e hi=>?_;simp only[List.getElem?_cons_zero,Option.some.injEq]at e;subst e;rw[í];refine .cons ?_ (ih (by simpa using c) λj v u=>by simpa using o (j+1) v (by simpa using u));rw[h.1];rcases zZ hi with⟨i,t,e1,e2⟩|⟨i,t,e1,e2⟩
   .subst e2;rw[show k=.inl i from e1];exact⟨t,rfl⟩
   .subst e2;rw[show k=.inr i from e1];exact⟨t,rfl⟩
end
section
def Gu(K:PySem.W.KdlSrc prog w "dict" r d n P OK)(B:(A.handled=none))(j:OK s.heap)(q:n<=sizeLine)
  (h: ∀(h':Heap) tk  acc' ,↑7->ItemsOf P acc' n->Q₁ (.ref (h'.objs.size)) {s with heap:=h'.push {cls:=.type "tuple",data:=.seq acc'},toks:=tk}):
  codeAny ↑3 A (.call (.builtin "tuple.__new__") ⟨[.type "tuple",.ref r],[]⟩) (wants Q₁ E) s:=by
 refine codeAny_of_tree ?_;show wpAny _ A.in1 _ _ _ s;refine wB (wpAny_of_eq (F.newCall_tuple_1 _) (wP ⟨ī F.plain_tuple_new _,đ F.entry_tuple_new ?_⟩));rw[Č F.plain_tuple_new _];have u:=sub_tuple_self;have m:=init_tuple_lookup;have C:=madeHere_tuple;have k:s.TypeIs (.ref r) "dict":=K.type s j
 wp_walk using ı k,PySem.W.kdu_collect (A:=A.in1) K B j q
 intro h' tk a y c;show wpAny _ _ (Builtin.Tuple.tupleExact a.toList.toArray >>= λv=>ret v) _ _ _;unfold Builtin.Tuple.tupleExact;refine wB (Ą ?_ (by show a.toList.toArray.size<=sizeLine;simp only[Ł];rw[c.1];exact q));refine wP ?_;have e:a.toList.toArray=a:=by simp
 rw[e];exact h h' tk a y c
def KL(K:PySem.W.KdlSrc prog w "dict" r d n P OK)(y:(A.handled=none))(m:OK s.heap)(v:n<=sizeLine)
  (hQ: ∀(h':Heap) tk  acc' ,↑7->ItemsOf P acc' n->Q (.ref (h'.objs.size)) {s with heap:=h'.push {cls:=.type "tuple",data:=.seq acc'},toks:=tk}):
  wpAny ↑3 A (call (.type "tuple") [.ref r]) Q E s:=by
 refine callType_codes (Q₁:=λj a=>a.TypeIs j "tuple"/\Q j a) F.called_tuple (F.typeCall_tuple_1 _) F.entry_object_init
  (Gu K y m v λh' tk q u k=>⟨(Z0 _ (ã _ rfl) rfl),hQ h' tk q u k⟩) λj a c=>?_
 exact⟨c.1,F.args_object_init_2 j _,object_init_meets F.called_tuple.init.lookup F.called_tuple.made ↑4 prog w A.in1 _ a ⟨c.1,rfl,c.2⟩⟩
theorem YL(K:PySem.W.KdlSrc prog w "dict" r d n P OK)(v:(A.handled=none))(m:OK s.heap)(B:n<64)(u: ∀j:Array Ś,ItemsOf P j n->IntsAre j.toList ns)
  (h: ∀(h':Heap) tk  out  k ,↑7->IntsAre out.toList k->k.Perm ns->k.Pairwise (· <=·)-> ∀ vs ,Q (.ref (h'.objs.size)) {s with heap:=sortedHeap (h'.push (seqObj "list" (vs.toArray) 0)) (h'.objs.size) vs out,toks:=tk}):
  wpAny ↑3 A (call (.builtin "sorted") [.ref r]) Q E s:=by
 refine Calls.call_function_entry kind_sorted plain_sorted entry_sorted (args_sorted1 _) ?_;rw[21];refine wB (PySem.W.kdu_collect K v m (by rw[ý];lia) λh' tk j y a=>?_);have C:j.toList.length=n:=by rw[á];exact a.1
 refine wB (wpAny_newList ?_ (by rw[ý];lia));have c:(h'.push (seqObj "list" j.toList.toArray 0)).get? (h'.objs.size)=some _:=ã _ rfl;show wpAny _ _ _ _ _ {s with heap:=h'.push _,toks:=tk};refine wB (û (õ slot_list_sort (Z0 _ c rfl) entry_list_sort (list_sort_tree c (u j a) (by rw[C];exact B) λout k q D F=>(Z0 _ rfl ?_)) (args_list_sort _)));refine wP (Z0 _ rfl (h h' tk out k y q D F j.toList))
end
section
variable{W:XW}{α:B9}
theorem Gv:CallR X (.type "tuple") (λxs H Q=> ∃d m,xs=[.ref d]/\DK X H d m/\X.calm=true/\ ∀l,H l=none->Q (.ref l) (yV H l (.tup (m.map λp=>kV p.1)))):=by
 intro pins s σ H xs J Q I r h;refine h.k λd m N D E q=>?_;subst N;refine(vals1 r).a λu O B=>?_;subst O;subst B;obtain⟨z,A,K,k,G⟩:=eB I D;obtain⟨M,w⟩:=G.dictAt;have L:=Paired.length k;refine KL (PySem.W.kdl_dict A) (I.ok.hd E) w #[0] λh' tk c F a=>?_;have y:Vals _ c.toList:=OE k (by rw[á];exact a.1) λj v e=>a.2 j v (by rw[<-ø];exact e);have I1:Inv X pins σ H {s with heap:=h',toks:=tk}:=I.kept F
 have C:Inv X pins σ (yV H (h'.objs.size) (.tup _)) {s with heap:=h'.push {cls:=.type "tuple",data:=.seq c},toks:=tk}:=
  I1.laid (λb o e=>hP0 _ e) (à _) (⟨by rw[lM0];exact z,_,y,by have:=IsTup.new h' c;simpa using this⟩)
 exact ZC (.ref (h'.objs.size)) _ C rfl (q _ (I1.hok.fresh (à _)))
def OG:List Er->Sto->R Er
 |[r],S=>match BV S r with |some (_,kvs)=>.ok (.val (.tup (kvs.map (·.1)))) S|none=>.no
 |_,_=>.no
def Uo(o:X.calm=true):aT X W (λxs H Q=> ∃d j,xs=[.ref d]/\DK X H d j/\X.calm=true/\ ∀l,H l=none->Q (.ref l) (yV H l (.tup (j.map λp=>kV p.1)))) OG:=by
 intro B w α S H Q b d a;unfold OG at a;split at a
 .split at a
  .rename_i n u e;refine(eZ d).a λv D s=>?_;subst D;refine(Uj b e s).j λc j C=>C.g λE A y m k _=>?_;subst E;exact Zr c j rfl m o (λl q=>Post.newt a b q (FG k))
  .exact a.elim
 .exact a.elim
theorem VA: ∀{ds}{ns},intsOf ds=some ns->ns.length=↑13
 |[],ns,h=>by cases h;rfl
 |x::ds,ns,hi=>by
  cases x<;>first |(cases hi;done)|skip
  unfold intsOf at hi
  cases zz:intsOf ds with
  |none=>rw[zz]at hi;cases hi
  |some ms=>rw[zz]at hi;cases hi;rw[lC0,lC0,VA zz]
theorem Gw:CallR X (.builtin "sorted") (λxs H Q=> ∃d y ds ns α,xs=[.ref d]/\DK X H d y/\intsOf ds=some ns/\DenL X.K α H ds (y.map λp=>kV p.1)/\↑13<64/\X.calm=true/\ ∀p,H p=none->Q (.ref p) (yV H p (.lst ((PySem.W.sortI ns).map V.int)))):=by
 intro pins s σ H xs L Q I r h;refine h.m λd y ds ns α a0=>a0.u λac S hi m hz T q=>?_;subst ac;refine(vals1 r).a λu al J=>?_;subst al;subst J;obtain⟨z,G,P,k,Y⟩:=eB I S;obtain⟨ep,A⟩:=Y.dictAt;have hl:=Paired.length k;have c:P.length<64:=by have:=m.length;rw[lM0]at this;lia
 refine YL (PySem.W.kdl_dict G) (I.ok.hd T) A c (λN a=>ints_of hi m (OE k (by rw[á];exact a.1) λj v e=>a.2 j v (by rw[<-ø];exact e))) λh' tk out O U C E F L=>?_;have Z:=PySem.W.eq_sortI E F;subst Z;have I1:Inv X pins σ H {s with heap:=h',toks:=tk}:=I.kept U;obtain⟨e,M⟩:=sortedHeap_at (ã _ rfl);refine ZC (.ref (h'.objs.size)) _ (I1.laid (λb o B=>?_) (à _) (show ObjOk X.prog X.w _ _ _ (.lst _)from⟨?_,_,e,eT C,?_⟩)) rfl (q _ (I1.hok.fresh (à _)))
 .have D:=â B;refine qq (sortedHeap_old (ä D) (by rw[size_push'];exact Nat.lt_succ_of_lt D)) ?_;exact hP0 _ B
 .have e1:=(eT C).length;have e2:=E.length_eq;have e3:=VA hi;have:=ý;rw[lM0]
  lia
 .rw[Ł];exact M
def OH(rs:List Er)(S:Sto):R Er:=match rs with
 |[p]=>match BV S p with
  |some (_,kvs)=>if kvs.length<64 then(match intsOf (kvs.map (·.1))with |some ns=>.ok (.new ((PySem.W.sortI ns).map MV.int)) S|none=>.no)else .no
  |none=>.no
 |_=>.no
def Uq(o:X.calm=true):aT X W (λxs H Q=> ∃d j ds ns α,xs=[.ref d]/\DK X H d j/\intsOf ds=some ns/\DenL X.K α H ds (j.map λp=>kV p.1)/\↑13<64/\X.calm=true/\ ∀p,H p=none->Q (.ref p) (yV H p (.lst ((PySem.W.sortI ns).map V.int)))) OH:=by
 intro C y α S H Q b d a;unfold OH at a;split at a
 .split at a
  .rename_i n w e;split at a
   .rename_i q;split at a
    .rename_i ns hi;refine(eZ d).a λv E u=>?_;subst E;refine(Uj b e u).j λc j D=>D.g λF B A m k _=>?_;subst F;exact Zp c j _ ns (α) ⟨rfl,m,hi,FG k,(by rw[lM0];exact q),o,(λp s=>Post.newl a b s (pX _))⟩
    .exact a.elim
   .exact a.elim
  .exact a.elim
 .exact a.elim
def Mv(k:X.calm=true):aT X W (λxs H Q=> ∃(a:Addr)(bs:L1),xs=[.ref a]/\SqL X.K H a (bs.map V.bl)/\X.calm=true/\Q (.bl (bs.any id)) H) UG:=by
 intro u o α S H Q c d b;unfold UG at b;split at b
 .split at b
  .rename_i bs e;refine(eZ d).a λv y m=>?_;subst y
   cases z:wN S _ with
   |none=>rw[z]at e;cases e
   |some ds=>
    rw[z]at e;refine(qA rfl c z m).b λj q A s l=>?_;subst A;refine Zr j bs rfl ?_ k (Post.val b c (xI _));rw[<-FC e l];exact s
  .exact b.elim
 .exact b.elim
end
section
variable{b:Expr}
def DP:CallR X (.builtin "any") (λxs H Q=> ∃(a:Addr)(bs:L1),xs=[.ref a]/\SqL X.K H a (bs.map V.bl)/\X.calm=true/\Q (.bl (bs.any id)) H):=by
 intro pins s σ H xs P Q I r h;refine h.k λa bs Z G E q=>?_;subst Z;refine(vals1 r).a λu ac O=>?_;subst ac;subst O;refine(I.list G).c λj D B S=>?_;have c:(j.length)=bs.length:=by rw[<-D.length,lM0]
 refine PySem.call_any_walk (Ŀ B.isList ?_);have F:a≠s.heap.objs.size:=by refine B.isList.a λo N _=>?_;exact ä (â N)
 have I1: ∀(h':Heap)(tk:Nat),(∀b o,b∉[↑0]->(s.heap.push {cls:=.type "list_iterator",data:=.fields #[.ref a,.int 0 0]}).get? b=some o->h'.get? b=some o)->Inv X pins σ H {s with heap:=h',toks:=tk}:=λh' tk k=>
  I.kept λb o e=>k b o (by simpa using ä (â e)) (hP0 _ e)
 refine YE (↑0) ([↑0,a]) ([↑0]) j.toArray.size _ _ (λi=>bs.getD i false) ⟨rfl,PySem.Walks.list (by first |exact I.ok.hd E|exact(I.ok.hd E)) _ a F j.toArray,⟨(ZB _ (ã _ rfl) rfl rfl),B.isList.at λo e=>hP0 _ e⟩,?_,(λh' tk k=>?_)⟩
 .intro i v Y U T L C;have m:=by simpa using L
  have hi:i<bs.length:=by rw[<-c];exact(gS.mp m).1
  have M:(bs.map V.bl)[i]? =some (V.bl (bs.getD i false)):=by simp[Ę,hi]
  refine(D.get M).a λW w A=>?_;rw[m]at w;cases w;subst A;exact ĉ C
 .refine(ZC (.bl _) H (I1 h' tk k) ?_ q);congr 1;refine qq sA (qq c ?_)
  have: ∀(l:L1),(List.range (l.length)).any (λi=>l.getD i false)=l.any id:=by
   intro l;rw[Ĉ,Ě,Ě];constructor
   .rintro⟨i,hi,h⟩;have y:=ú.mp hi;exact⟨l[i],Ĩ y,by simpa [Ę,y]using h⟩
   .rintro⟨x,J,h⟩;obtain⟨i,hi,rfl⟩:=Ń J;exact⟨i,ú.mpr hi,by simpa [Ę,hi]using h⟩
  exact this bs
def zBX(i j:Int):Prop:=0<=j
instance(i j:Int):Decidable (zBX i j):=inferInstanceAs (Decidable (_<=_))
abbrev M4:=Rv zBX λi j=>i / 2 ^ j.toNat
def M5(c:zP X W a f)(s:zP X W b g):zP X W (.BinOp a .RShift b pos) (λk S=>(f k S).bind λp m=>(g k m).bind λq S2=>M4 p q S2):=JE (zAC λi j _ _ _ _ _ o q=>
  rshift_int o (by rw[Int.fdiv_eq_ediv_of_nonneg i (WR _)];exact q)) (QE λi j h=>h) c s
end
end M
end L2
namespace PySem
def getAttr?_miss_list
  (D:s.heap.get? a=some o) (B:o.cls=.type "list") (j:o.data=.seq xs k) (C:o.dict=none) (q:typeLookup (.type "list") name=pure none) (m:(["__module__","__name__","__qualname__","__doc__","__annotations__"]:D0).contains name=false) (J:(A.handled=none))
  (h: ∀h' tk,↑7->Q none {s with heap:=h',toks:=tk}) (hsz:name.length+100<=sizeLine:=by size_fits):
  wpAny ↑3 A (getAttr? (.ref a) name) Q E s:=by
 obtain⟨c,H,G,sl⟩:=o;simp only at B j C;subst B j C;obtain⟨I,g,d,tk,os⟩:=s;have y: ∀v,(⟨I,g,d,v,os⟩:ř).TypeIs (.ref a) "list":=λ_=>(Z0 _ D rfl)
 have K:=sub_AttributeError;have N:=F.slot_list_getattribute.lookup;have O:=F.slot_list_getattribute.bind (.ref a);have L:=am_list_getattr_none;unfold getAttr? getAttrBy? getAttrBy
 repeat (any_goals (first |assumption|exact y _|((with_reducible show wpAny _ _ (call _ _ _) _ _ _);refine call_meets F.slot_list_getattribute (y _) am_entry_list_getattribute (F.args_list_getattribute_2 _ _) (meets_getattribute_miss_list a xs k sl name _ q m hsz) ⟨D,J,λh' v e u=>?_⟩)|wp_step))
 refine u.there.j λM P S=>?_;(show wpAny _ _ _ _ _ _);unfold getattributeRaised
 (repeat (any_goals (first |assumption|wp_step)))
 exact h _ _ u.keeps
namespace F
def entry_dict_update_loop:entryFor table "dict.update.loop"=some Builtin.«dict.update.loop»:=entryFor_of_tree (by kernel_rfl)
def plain_dict_update_loop:plainId "dict.update.loop"=true:=by decide+kernel
end F
open PyProof.Rows
section
variable{K:Type}[DecidableEq K]{knd:KeyKind prog w K}
def YM(knd:KeyKind prog w K)(h:Heap)(c:K×Ś)(v:Ś):Prop:= ∃a b,v=.ref a/\IsTup h a #[b,c.2]/\knd.is c.1 b=true
theorem DQ{St:Nat->Heap->Prop}(W:Walks prog w A.in1 I fp [I] n P St)(K:D∉fp)(kvs)(hn:kvs.length=n)(hz:n<=sizeLine)
  (hP: ∀i v,P i v-> ∃Y,kvs[i]? =some Y/\YM knd h₀ Y v) (hI:h₀.get? I=none) (hD:h₀.get? D=none):
  ∀ k i  j  s ,n - i=k->i<=n->St i s.heap->s.heap.DictOf knd D (merged [] (kvs.take i))->(∀b o,h₀.get? b=some o->s.heap.get? b=some o)->
   (∀h' tk,(∀b o,h₀.get? b=some o->h'.get? b=some o)->h'.DictOf knd D (merged [] kvs)->R (.ok (.ret .none)) {s with heap:=h',toks:=tk})->
   codeAny ↑3 A (.builtin "dict.update.loop" ⟨[.ref D,.ref I,rawInt j,.none],[]⟩) R s:=by
 have H:D≠I:=λe=>K (e▸W.sub _ (mS.mpr rfl));intro k
 induction k with
 |zero=>
  intro i j s hk hi y M c Q;have T:i=n:=by lia
  subst T;refine đ F.entry_dict_update_loop ?_;refine qq (Č F.plain_dict_update_loop _) ?_;show wpAny _ A.in1 _ _ _ s;refine wB (W.done s _ _ y λh' tk q=>?_);show wpAny _ A.in1 _ _ _ _;rw[21];rw[<-hn,take_length]at M;refine wP (Q h' tk (λb o e=>?_) ?_)
  .exact q b o (λh=>by rw[mS.mp h,hI]at e;cases e) (c b o e)
  .refine M.n λo es Z B rest=>?_;exact Zc o es Z (q D o (λh=>H (mS.mp h)) B) rest
 |succ k ih=>
  intro i j s hk hi y M c Q;have L:i<n:=by lia
  refine đ F.entry_dict_update_loop ?_;refine qq (Č F.plain_dict_update_loop _) ?_;show wpAny _ A.in1 (pyNext (.ref I) >>= _) _ _ s;refine wB (W.item i s _ _ L y λv h' tk U E q=>?_);obtain⟨Y,aa,a,ae,rfl,hT,C⟩:=hP i v U;have m: ∀b o,h₀.get? b=some o->h'.get? b=some o:=λb o e=>q b o (λh=>by rw[mS.mp h,hI]at e;cases e) (c b o e);have X:h'.DictOf knd D (merged [] (kvs.take i)):=by refine M.n λo es Z B rest=>?_;exact Zc o es Z (q D o (λh=>H (mS.mp h)) B) rest
  have⟨o,B,hc,nn,G⟩:=hT.keeps m;have S:Shared.TypeIs {s with heap:=h',toks:=tk} (.ref a) "tuple":=(Z0 o B hc)
  refine wB (û ?_);refine wB (wpAny_tryCatch ?_);unfold Builtin.Dict.pairItems;refine wB (ı S ?_);refine qq (iP ↑4) ?_;refine wB ?_;(show wpAny _ _ _ _ _ _);refine wB (wpAny_load B ?_);refine qq G ?_;refine wP (wP ?_);(show wpAny _ _ _ _ _ _);refine û ?_;have ab:=merged_length_le [] (kvs.take i);have af:(kvs.take i).length<=n:=by rw[<-hn];exact List.length_take_le' i kvs
  refine wpAny_dictSet_pairs C X λh2 N J=>?_;have u: ∀b o,h₀.get? b=some o->h2.get? b=some o:=λb o e=>by rw[J.2 b (λh=>by rw[h,hD]at e;cases e)];exact m b o e
  refine wP ⟨ī F.plain_dict_update_loop _,ih (i+1) (j+1) _ #[0] L (W.frame _ _ _ E λb hb o e=>?_) ?_ u λh3 O k3 d3=>Q h3 O k3 d3⟩
  .rw[J.2 b (λh=>K (h▸hb))];exact e
  .rw[merged_take_succ _ _ _ _ aa];exact N
def HU(J:(A.handled=none))(M:s.heap.get? l=some o)(H:o.cls=.type "list")(P:o.dict=none)(j:o.data=.seq its c)(y:its.size=kvs.length)(hz:its.size<=sizeLine)
  (hP: ∀(i:Nat) v,its[i]? =some v-> ∃N,kvs[i]? =some N/\YM knd s.heap N v)
  (h: ∀h' tk,↑7->h'.DictOf knd ↑0 (merged [] kvs)->Q (.ref ↑0) {s with heap:=h',toks:=tk}):
  wpAny ↑3 A (call (.type "dict") [.ref l]) Q E s:=by
 refine callType_codes (Q₁:=λB k=>B=.ref ↑0/\k={s with heap:=s.heap.push {cls:=.type "dict",data:=.dict #[]}}) F.kt_called_dict (F.kt_typeCall_dict_1 _) F.entry_dict_init (kt_code_dict_new _ ⟨rfl,rfl⟩) ?_;rintro B k ⟨rfl,rfl⟩;have a:(s.heap.push {cls:=.type "dict",data:=.dict #[]}).DictOf knd ↑0 []:=Heap.DictOf.new s.heap;have m:(s.heap.push {cls:=.type "dict",data:=.dict #[]}).get? l=some o:=hP0 _ M;have L:=â M;refine⟨a.typeIs,F.args_dict_init_2 _ _,?_⟩;unfold Builtin.«dict.__init__»;refine wB ?_;unfold Builtin.Dict.selfAndRest;refine wB (wpAny_notOrdered_dict a.typeIs ?_);(show wpAny _ _ _ _ _ _);refine wP ?_;show wpAny _ _ (Builtin.Dict.updateFrom "dict.__init__" ↑0 (.ref l) [] .none) _ _ _;unfold Builtin.Dict.updateFrom;refine wB (ı (Z0 o m H) ?_);rw[iP ↑4];refine wB (getAttr?_miss_list m H j P (am_miss_of_fast ↑10) ↑10 J (λI T G=>?_) ↑10);rw[iP (show(none:Option Ś).isNone=true from rfl)];refine wB (ĩ ?_);have q:=G l o m;refine wB (Ŀ ⟨o,q,H,c,j⟩ ?_);have O:l≠I.objs.size:=ä (â q);have C:↑0<I.objs.size:=by refine a.n λD _ _ u _=>?_;exact â (G _ _ u)
 refine wP ⟨ī F.plain_dict_update_loop _,DQ (Walks.list (by first |exact J|exact J) I.objs.size l O its) ?_ kvs y.symm hz hP ?_ ?_ _ 0 0 _ rfl (zero_le _) ⟨(ZB _ (ã _ rfl) rfl rfl),⟨o,hP0 _ q,H,c,j⟩⟩ ?_ ?_ λh' tk S K=>?_⟩
 .rw[mC,mS];rintro(e|e)
  .exact ä C e
  .exact ä L e.symm
 .cases u:s.heap.get? I.objs.size with
  |none=>rfl
  |some D=>exact absurd (â u) (Nat.lt_asymm C)
 .cases u:s.heap.get? ↑0 with
  |none=>rfl
  |some D=>exact absurd (â u) (ĝ _)
 .refine a.n λD es U u rest=>?_;exact Zc D es U (hP0 _ (G _ _ u)) rest
 .intro b D e;exact hP0 _ (G _ _ (hP0 _ e))
 .exact⟨rfl,h h' tk S K⟩
end
end PySem
namespace L2
namespace M
open PySem PySem.Spec PyProof.Rows
section
variable{X:Cx}{α:B9}{H:Hp}
def VB(ps:List (Key×V)):List (Key×V):=ps.foldl (λa p=>HS a p.1 p.2) []
inductive PairsV(K:O0)(H:Hp):List V->List (Key×V)->Prop
 |nil:PairsV K H [] []
 |cons {a:Addr} {k:Key} {v:V} {vs ps}:SqT K H a [kV k,v]->PairsV K H vs ps->PairsV K H (.ref a::vs) ((k,v)::ps)
def Ur(r:KV ps qs): ∀{as}{bs},KV as bs->KV (ps.foldl (λj p=>HS j p.1 p.2) as) (merged bs qs):=by
 induction r with
 |nil=>intro as bs h;exact h
 |@cons p q ps qs h t ih=>
  intro as bs a;rw[ĕ];show KV _ _;rw[h.1];exact ih (Ml a _ h.2)
def pairs_of(I:↑1)(r:PairsV X.K H vs ps): ∀{j},Vals vs j-> ∃qs:List (Key×Ś),KV ps qs/\qs.length=(j.length)/\ ∀(i:Nat) v,j[i]? =some v-> ∃m,qs[i]? =some m/\YM (jM X.prog X.w) s.heap m v:=by
 induction r with
 |nil=>intro j h;cases h;exact ZB ([]) .nil rfl (λi v h=>by simp at h)
 |@cons a k v vs ps hq t ih=>
  intro j h
  cases h with
  |@cons _ u _ j ru rt=>
   subst ru;refine(ih rt).c λqs A y B=>?_;refine(I.tuple hq).c λC E q F=>?_;refine(vals2 E).b λb c G D o=>?_;subst G;refine ZB ((k,c)::qs) (.cons ⟨rfl,o⟩ A) (by exact qq lC0 (qq lC0 (qq y rfl))) (λi w hw=>?_)
   cases i with
   |zero=>
    cases hw;exact⟨_,rfl,a,b,rfl,q,OA D⟩
   |succ i=>exact B i w hw
theorem Gx(ps):(VB ps).length<=ps.length:=by
 have: ∀(ps as:List (Key×V)),(ps.foldl (λa p=>HS a p.1 p.2) as).length<=as.length+ps.length:=by
  intro ps
  induction ps with
  |nil=>intro as;exact à _
  |cons p ps ih=>
   intro as;rw[ĕ,lC0];have:=ih (HS as p.1 p.2);have:=US as p.1 p.2
   lia
 have:=this ps [];rw[ġ,Ĳ]at this;exact this
def YN{K:O0}(r:PairsV K H vs ps):ps.length=vs.length:=by
 induction r with
 |nil=>rfl
 |cons _ _ ih=>rw[lC0,lC0,ih]
theorem Gy:CallR X (.type "dict") (λxs H Q=> ∃l vs ps,xs=[.ref l]/\SqL X.K H l vs/\PairsV X.K H vs ps/\X.calm=true/\ ∀d,H d=none->Q (.ref d) (yV H d (.dK (VB ps)))):=by intro pins s σ H xs M Q I r h;refine h.o λl vs ps T y k E q=>?_;subst T;refine(vals1 r).a λu U B=>?_;subst U;subst B;refine(I.list y).c λG j V O=>?_;obtain ⟨o,n,L,b,A,a⟩:=V;refine(pairs_of I k j).c λN D C J=>?_;have S:=(j.length);refine HU (I.ok.hd E) L b A a (by exact qq sA (qq C rfl)) (by rw[sA];lia) (λi v e=>J i v (by simpa using e)) λh' tk F c=>?_;have m:=YN k;have P:=Gx ps;refine ZC (.ref ↑0) _ (I.laid F (à _) (show ObjOk X.prog X.w _ h' _ (.dK (VB ps))from⟨by lia,ğ.mpr (Ne.symm (ä (Lu I))),_,Ur D .nil,c⟩)) rfl (q _ (I.hok.fresh (à _)))
def rH:List MV->Option (List (MV×MV))
 |[]=>some []
 |.tup [k,v]::r=>if AR k=true then(rH r).map ((k,v)::·)else none
 |_::_=>none
def Xz(ps:Y0):List (MV×MV):=ps.foldl (λa p=>putK a p.1 p.2) []
theorem KM{K:O0}: ∀{ds}{j}{vs},rH ds=some j->DenL X.K α H ds vs-> ∃ps,PairsV X.K H vs ps/\DenK X.K α H j ps
 |[],j,vs,e,l=>by cases e;rw[l.isnil];exact⟨[],.nil,.nil⟩
 |d::ds,j,vs,e,l=>by
  refine l.uncons.b λv r N G B=>?_;subst N;unfold rH at e;split at e
  .cases (by assumption:d::ds=[])
  .rename_i k y M c;obtain⟨rfl,rfl⟩:=List.cons.inj c;split at e
   .rename_i w
    cases z:rH ds with
    |none=>rw[z]at e;cases e
    |some ms=>
     rw[z]at e;cases e;refine(KM (K:=K) z B).a λps p1 p2=>?_;refine(yN G).b λa E O hs A=>?_;subst O;refine A.uncons.b λF I P s o=>?_;subst P;refine o.uncons.b λL D Q C m=>?_;subst Q;have q:=m.isnil;subst q;obtain⟨J,b⟩:=ü.mp w;have u:=Gn b s;subst u;exact Z0 _ (.cons hs p1) (.cons (Gk b) C p2)
   .cases e
  .cases e
theorem OI{k}{ps}(q:DenK X.K α H k ps): ∀{as}{bs},DenK X.K α H as bs->DenK X.K α H (k.foldl (λj p=>putK j p.1 p.2) as) (ps.foldl (λj p=>HS j p.1 p.2) bs):=by
 induction q with
 |nil=>exact λh=>h
 |cons hk a l i=>exact λh=>i (UU h hk a)
def Bu:List Er->Sto->R Er
 |[r],S=>match (wN S r).bind rH with |some kvs=>.ok (.val (.loc S.length)) (S++[.dic (Xz kvs)])|none=>.no
 |_,_=>.no
def Us:bootBuiltins "dict"=some (.type "dict"):=by decide+kernel
def Ut(q:X.calm=true):aT X W (λxs H Q=> ∃l vs ps,xs=[.ref l]/\SqL X.K H l vs/\PairsV X.K H vs ps/\X.calm=true/\ ∀d,H d=none->Q (.ref d) (yV H d (.dK (VB ps)))) Bu:=by
 intro B vs α S H Q b d a;unfold Bu at a;split at a
 .split at a
  .rename_i A e;refine(eZ d).a λv C w=>?_;subst C
   cases z:wN S _ with
   |none=>rw[z]at e;cases e
   |some ds=>
    rw[z]at e;refine(qA rfl b z w).b λk s D y l=>?_;subst D;refine(KM (K:=X.K) e l).a λps p1 p2=>?_;refine Zv k s ps ⟨rfl,y,p1,q,(λp c=>?_)⟩;have j:=b.newx (o:=.dK (VB ps)) c;obtain⟨x,u⟩:=b.put (m:=.dic _) c (.inl ⟨_,zO,(OI p2 .nil).ex0 ⟨⟨[p],rfl⟩,j.tup,j.frz⟩⟩);exact a _ _ _ x u (DenE.val (vM (by rw[<-b.len,ð (à _),sub_self];rfl)))
  .exact a.elim
 .exact a.elim
end
section
theorem Gz:CallR X (.builtin "len") (λxs H Q=> ∃d j,xs=[.ref d]/\DK X H d j/\Q (.int (j.length)) H):=by intro pins s σ H a y Q I b h;refine h.b λd j A k q=>?_;subst A;refine(vals1 b).a λv B c=>?_;subst B;subst c;obtain⟨z,hs,a,m,u⟩:=eB I k;have o:=Paired.length m;have w:=ý;refine PySem.call_len_dict hs u #[0] (ZC (.int (j.length)) H ((I.tok _).tok _) (by refine qq o ?_;exact⟨_,rfl⟩) q)
def VC:List Er->Sto->R Er
 |[r],S=>match BV S r with
  |some (_,kvs)=>.ok (.val (.int kvs.length)) S
  |none=>.no
 |_,_=>.no
def Uu:aT X W (λxs H Q=> ∃d j,xs=[.ref d]/\DK X H d j/\Q (.int (j.length)) H) VC:=by
 intro A u α S H Q k d a;unfold VC at a;split at a
 .split at a
  .rename_i l s e;refine(eZ d).a λv C o=>?_;subst C;refine(Uj k e o).j λc j B=>B.g λD y w b m _=>?_;subst D;have q:=DenK.length m;refine ZC c j rfl b ?_;rw[q];exact Post.val a k (yQ _)
  .exact a.elim
 .exact a.elim
end
theorem FK{K:O0}: ∀{ds}{j}{vs},intsOf ds=some j->DenL K α H ds vs->vs=j.map V.int
 |[],j,vs,h,d=>by cases h;rw[d.isnil];rfl
 |x::ds,j,vs,h,d=>by
  refine d.uncons.b λv r a k l=>?_;subst a
  cases x with
  |int x=>
   unfold intsOf at h
   cases z:intsOf ds with
   |none=>rw[z]at h;cases h
   |some zs=>
    rw[z]at h;cases h;rw[í,yI k,FK z l]
  |_=>cases h
section
variable{K:Type}[DecidableEq K]
def TSet(knd:KeyKind prog w K)(h:Heap)(a:Addr)(S:K->Bool)(n:Nat)(b:Bool):Prop:=
 ∃o es c t,h.get? a=some o/\o.ExactSet/\o.data=.set es c t/\ElemsOf knd es.toList/\(∀k,S k=true↔ ∃e∈es.toList,knd.is k e.2=true)
  /\es.size<scanBound/\t.fits es.size=true/\es.size=n/\t.led=b/\(es.size=0\/t.plain=false)/\(es.toList.map (·.2)).Pairwise (λx y=> ∀k,knd.is k x=true-> ¬knd.is k y=true)
end
noncomputable abbrev fH(w:World):Bool:=w.params.followText "set-order"
abbrev zBY(P:Program)(w:World)(h:Heap)(D:Addr)(val:Nat->Key)(i:Nat):Prop:=TSet (jM P w) h D (λk=>inK k (Mm val i)) (Mm val i).length (!fH w)
def StrT(val:Nat->Key)(i:Nat)(v:Ś):Prop:= ∃x t,val i=.inr x/\v=.str x t
def StrT.is(h:StrT val i v):(jM P w).is (val i) v=true/\v.scannable=true/\plainKind v=false:=by refine h.d λx t e a=>?_;subst a;rw[e];exact⟨tK P w x t,rfl,rfl⟩
section
def MR(a)
  (h:Q₁ (.ref ↑0) {s with heap:=s.heap.push (xE (!fH w))}):
  codeAny (model P w) A (.call (.builtin "set.__new__") ⟨[.type "set",a],[]⟩) (wants Q₁ E) s:=by
 refine codeAny_of_tree ?_;show wpAny _ A.in1 (do checkBuiltinCall "set.__new__" ⟨[.type "set",a],[]⟩;again (.builtin "set.__new__" ⟨[.type "set",a],[]⟩)) _ _ s;refine wB (wpAny_of_eq (F.newCall_set_1 a) (wP ⟨ī F.plain_set_new _,đ F.entry_set_new ?_⟩));rw[Č F.plain_set_new _];unfold Builtin.«set.__new__» Builtin.Frozenset.newClass;have b:=sub_set_self;obtain⟨c,g,d,tk,os⟩:=s;dsimp only
 wp_walk
 refine Ķ (wP ?_);dsimp only;simp only[newObj];refine wB (wpAny_alloc (wP ?_));exact wP h
end
end M
end L2
namespace PySem.F
def slot_seti_next:Slot "set_iterator" "__next__" "set_iterator.__next__":=
 .of (owner:="set_iterator") (n:="__next__") (by rw[typeLookup_type,ļ];kernel_rfl) ↑10 ↑10 ↑10
  (by first |exact .inl ↑10|exact .inr ↑10) (by rw[ń];kernel_rfl)
def entry_seti_next:entryFor table "set_iterator.__next__"=some Builtin.«set_iterator.__next__»:=entryFor_of_tree (by kernel_rfl)
def entry_set_iter':entryFor table "set.__iter__"=some Builtin.«frozenset.__iter__»:=entryFor_alias (id':="frozenset.__iter__") (by kernel_rfl) rfl ↑10 (by kernel_rfl)
theorem KN:Manifest.owners.lookup (String.ofList ['r', 'o', 't', 'a', 'r', 'e', 't', 'i', '_', 't', 'e', 's'].reverse)=some Manifest.sig_set_iterator:=by kernel_rfl
theorem args_seti_next(a):argsOk "set_iterator.__next__" ⟨[a],[]⟩:=by unfold argsOk;rw[signature?_of (id:="set_iterator.__next__") (n:=['_', '_', 't', 'x', 'e', 'n', '_', '_']) (o:=['r', 'o', 't', 'a', 'r', 'e', 't', 'i', '_', 't', 'e', 's']) (by kernel_rfl) KN];kernel_rfl
end PySem.F
namespace L2
namespace M
open PySem PySem.Spec PyProof.Rows
section
variable{α:Type}
theorem BW: ∀(l:List α) i  hi ,(l[i]::l.eraseIdx i).Perm l
 |x::l,0,_=>.refl _
 |x::l,i+1,hi=>by
  have j:=by simpa using hi
  have:=BW l i j;exact(List.Perm.swap x l[i] _).trans (this.cons x)
def SetAt(h:Heap)(D:Addr)(es:K0)(a:Nat)(t:SetTable):Prop:= ∃o,h.get? D=some o/\o.ExactSet/\o.data=.set es a t/\t.fits es.size=true
abbrev IG(h:Heap)(a:Addr)(first:Value)(i n b:Nat)(D:Addr):Prop:=h.get? a=some {cls:=.type "set_iterator",dict:=none,data:=.fields #[first,rawInt i,.ref D,rawInt n,rawInt b],slots:=#[]}
end
theorem Bv(next): ∀ j k  left (out:Array α),left.length=j->(pickOrder.go next j k left out).toList.Perm (out.toList++left)
 |0,k,left,out,h=>by have e:=List.eq_nil_of_length_eq_zero h;subst e;unfold pickOrder.go;rw[aN]
 |j+1,k,left,out,h=>by
  have hi:next k % left.length<left.length:=mod_lt _ #[0]
  unfold pickOrder.go;rw[gE hi];refine(Bv next j _ _ _ (by rw[List.length_eraseIdx_of_lt hi,h];rfl)).trans ?_;rw[Array.toList_push,aA];exact(BW left _ hi).append_left out.toList
def vS(next)(xs:Array α):(pickOrder next xs).toList.Perm xs.toList:=by
 have:=Bv next xs.size 0 xs.toList #[] (by simp)
 simpa [pickOrder]using this
end M
end L2
namespace PySem.F
def slot_seti_iter:Slot "set_iterator" "__iter__" "set_iterator.__iter__":=
 .of (owner:="set_iterator") (n:="__iter__") (by rw[typeLookup_type,ļ];kernel_rfl) ↑10 ↑10 ↑10
  (by first |exact .inl ↑10|exact .inr ↑10) (by rw[ń];kernel_rfl)
def entry_seti_iter:entryFor table "set_iterator.__iter__"=some Builtin.«dict_keyiterator.__iter__»:=entryFor_alias (id':="dict_keyiterator.__iter__") (by kernel_rfl) rfl ↑10 (by kernel_rfl)
theorem args_seti_iter(a):argsOk "set_iterator.__iter__" ⟨[a],[]⟩:=by unfold argsOk;rw[signature?_of (id:="set_iterator.__iter__") (n:=['_', '_', 'r', 'e', 't', 'i', '_', '_']) (o:=['r', 'o', 't', 'a', 'r', 'e', 't', 'i', '_', 't', 'e', 's']) (by kernel_rfl) KN];kernel_rfl
end PySem.F
namespace L2
namespace M
open PySem PySem.Spec PyProof.Rows
section
def Ha(b:IG s.heap it first i n ep D)(c:Q (.ref it) s):wpAny ↑3 A (pyIter (.ref it)) Q E s:=by
 have a:s.TypeIs (.ref it) "set_iterator":=(Z0 _ b rfl)
 refine wpAny_pyIter_slot a F.slot_seti_iter (õ F.slot_seti_iter a F.entry_seti_iter ?_ (F.args_seti_iter _));unfold Builtin.«dict_keyiterator.__iter__» slotArgs;rw[21];exact wP ⟨_,rfl,"set_iterator",_,a,F.slot_seti_next.lookup,c⟩
def SetAt.keep(x:SetAt h D es ep t)(m: ∀o,h.get? D=some o->h'.get? D=some o):SetAt h' D es ep t:=by refine x.a λo a r=>?_;exact Z0 o (m o a) r
def CA{t:SetTable}(h:t.fits n=true):t.place.size=n:=by simp only[SetTable.fits,aE,Ħ,é]at h;exact h.1
end
section
variable{E:VP}
def Mw(j:s.TypeIs (.ref r) "set")(h:Q false s):wpAny ↑3 A (Builtin.List.listLengthHint (.ref r)) Q E s:=by
 unfold Builtin.List.listLengthHint;refine wB (ĺ j PySem.F.slot_set_len.lookup ?_);generalize c:("set.__len__":String)=id0
 wp_delta
 rw[show splitId id0=some ("set","__len__")from by subst c;decide+kernel];subst c;refine wB (ģ (T:="set") (b:=true) j (by rw[ń];kernel_rfl) ?_);refine wpAny_ite_split (λa=>absurd a ↑4) (λ_=>?_);refine wpAny_ite_split (λ_=>?_) (λa=>absurd ↑10 a);refine wB (ı j ?_);exact wP h
def M6(h:ItemsOf P acc n)(b:(l.length)=n)(a: ∀i v,P i v->l[i]? =some v):acc.toList=l:=by
 refine Ņ λi=>?_;by_cases hi:i<acc.size
 .have e:acc[i]? =some acc[i]:=ó hi;have:=a i _ (h.2 i _ e);exact qq this (qq ø (qq e rfl))
 .have c:=h.1;rw[Ď (by rw[á];lia),Ď (by lia)]
abbrev zBZ(prog:Program)(w:World)(A:Around)(r:Addr)(s:Shared)(S:Addr)(n:Nat)(G:Array Value->Prop):Prop:=
 ∀(E:VP)(Q:VP),(∀(h':Heap)(d':Drawn)(I:Addr)(fp c:B9)(P:Nat->Ś->Prop)(St:Nat->Heap->Prop),Walks prog w A I fp c n P St->St 0 h'->S∉fp->(∀b∈c,↑0<=b)->↑7->(∀a,ItemsOf P a n->G a)->Q (.ref I) {s with heap:=h',drawn:=d'})->wpAny ↑3 A (pyIter (.ref r)) Q E s
end
section
noncomputable def YO{R:Result->ř->Prop}(O:zBZ prog w A.in1 r s S n G)(Y:s.TypeIs (.ref r) "set")(U:S≠r)(res)(c₀)(hS:s.heap.get? S=some {cls:=.type "list",data:=.seq #[] c₀})(hn:n<=sizeLine)
  (hR: ∀h' tk d' j J,(∀b o,b≠S->s.heap.get? b=some o->h'.get? b=some o)->h'.get? S=some {cls:=.type "list",dict:=none,data:=.seq j J,slots:=#[]}->G j->R (.ok (.ret res)) {s with heap:=h',toks:=tk,drawn:=d'}):
  wpAny ↑3 A.in1 (Builtin.List.listExtendWith (.ref S) (.ref r) res)
   (λQ y=>match Q with |.done f=>R (.ok f) y|.again J=>J.quiet=true/\codeAny (model prog w) A J R y) (λe y=>R (.error e) y) s:=by
 unfold Builtin.List.listExtendWith;refine wB (ı (T:="set") Y ?_);have h1:Builtin.List.listSameRef (.ref S) (.ref r)=false:=by simp[Builtin.List.listSameRef,U]
 have h2:(Value.type "set"==Value.type "list")=false:=by decide
 have h3:(Value.type "set"==Value.type "tuple")=false:=by decide
 simp only[h1,h2,h3,Bool.or_false,fT0,iF];refine wB (O _ _ λH u I fp wr P St W st D M c hG=>?_)
 have L: ∀(h:Heap)(k tk:Nat),St 0 h->(∀b o,b≠S->s.heap.get? b=some o->h.get? b=some o)->
   h.get? S=some {cls:=.type "list",data:=.seq #[] k}->codeAny ↑3 A (.builtin "list.extend.loop" ⟨[.ref S,.ref I,res],[]⟩) R {s with heap:=h,toks:=tk,drawn:=u}:=by
  intro h k tk N hk a;refine codeAny_extend_loopS W.toS hn S D res n 0 _ #[] k rfl (zero_le _) N a (ItemsOf.nil _) λy j J Z X E=>?_;rw[Moved.eq_with Z];refine hR y.heap y.toks u j J (λb o B e=>Z.heap b o (λq=>?_) (hk b o B e)) X (hG _ E);rcases mC.mp q with e'|q
  .exact B e'
  .exact absurd (â e) (Nat.not_lt.mpr (M b q))
 have a:=c S _ hS;have C:Shared.TypeIs {s with heap:=H,drawn:=u} (.ref r) "set":=by refine Y.a λo ho hc=>?_;exact Z0 o (c r o ho) hc
 refine wB (û (Mw C ?_));refine wpAny_ite_split (λ_=>?_) (λ_=>wP ⟨ī PySem.F.plain_extend_loop _,L _ c₀ _ st (λb o _ e=>c b o e) a⟩);refine wB (ĩ ?_);refine wB ?_;show wpAny _ _ (updateSeq S (·.push .none) >>= λ_=>updateSeq S (·.pop)) _ _ _;refine wB (wpAny_updateSeq a rfl ?_);have m:=ö (Obj.mapSeq (·.push Value.none)) a rfl;refine wpAny_updateSeq (hz:=by seq_fits) m rfl ?_;have v:=ö (Obj.mapSeq (·.pop)) m rfl;refine wP ⟨ī PySem.F.plain_extend_loop _,L _ _ _ ?_ (λb o B e=>?_) v⟩
 .refine W.frame 0 _ _ st λb B o e=>?_;have K:b≠S:=λh=>D (h▸B);exact(ù _ _ (Ne.symm K)).trans ((ù _ _ (Ne.symm K)).trans e)
 .exact(ù _ _ (Ne.symm B)).trans ((ù _ _ (Ne.symm B)).trans (c b o e))
end
end M
end L2
namespace L2
open PySem PySem.Spec PyProof.Rows
variable{X:Cx}{pins:L0}{σ:St}{H H':Hp}{s:ř}{h':Heap}
def Inv.unD(I:Inv X pins σ H s)(u:Un X.fs [] H H' s.heap h')(j:HOk X.prog X.w H' h'):Inv X pins σ H' {s with heap:=h',toks:=t',drawn:=d'}:=by refine(id I.loc).a λm E _=>?_;obtain ⟨o,es,C,v,r⟩:=E;obtain⟨sl,B⟩:=u.any v I.free (by simp);exact I.step (g':=s.gens) (d':=d') (ch:=[]) (λ_ z=>nomatch z) (λb o _ q _ e n=>u.keep b o e n q (by simp)) (λb o _ q _ e n=>u.slot b o e n q (by simp)) (λb o _ e n=>u.free b o e n (by simp)) (λb o _ e=>u.there b o e (by simp)) u.tups u.frzs u.tbls (λm y=>by refine y.n λD k c a A=>?_;rw[v]at a;cases a;exact Zc _ k c B A) j I.bare
def Inv.keptD(I:↑1)(k: ∀b u,s.heap.get? b=some u->h'.get? b=some u):Inv X pins σ H {s with heap:=h',toks:=t',drawn:=d'}:=I.unD (Un.kept k) (I.hok.kept k)
namespace M
def setT(P:ś)(w:World)(l:Addr)(a:Ch):HO:=.ext λh=>zBY P w h l (valY a) a.length
section
variable{apos pos:Pos}
def rSX(X:Cx):V->List V->Hp->VK->Prop:=λx b H Q=> ∃(a:List (Key×V))(d:Addr)(k:Key)(y:V),x=.ref d/\b=[kV k,y]/\DK X H d a/\a.length<sizeLine/\(∀v,jC a k=some v->Q v H)/\(jC a k=none->Q y (yV H d (.dK (HS a k y))))
theorem M7:Y1 X "dict.setdefault" (rSX X):=by
 intro pins s σ H x vs v us Q I L G h;refine h.q λj d k y V ac w hz N S=>?_;subst V;subst ac;refine(vals2 G).b λu1 J al O C=>?_;subst al;subst L;have E:=(QT pins s σ H (.ref d) _ I rfl (Zy d j rfl w)).1;obtain⟨_,hs,ws,A,W⟩:=eB I w;have hl:=Paired.length A;obtain⟨D,M⟩:=DM A k;have hp:=US j k y;refine õ PySem.F.slot_dict_setdefault E PySem.F.entry_dict_setdefault ?_ (PySem.F.args_dict_setdefault_3 _ _ _);refine wB ?_;refine wB (wpAny_notOrdered_dict E ?_);refine wP ?_;(show wpAny _ _ (if _=true then _ else _) _ _ s);refine qq (iN0 (by rw[hs];exact xF0)) ?_;refine wB (kt_dictSetDefault_pairs (OA O) W (λu B=>?_) (λT h' c m=>?_) #[0])
 .cases a:jC j k with
  |some v=>
   refine(D v a).a λU e Z=>?_;rw[B]at e;cases e;exact wP ⟨u,rfl,v,H,I.tok _,Z,N v a⟩
  |none=>rw[M a]at B;cases B
 .cases a:jC j k with
  |some v=>
   refine(D v a).a λU e _=>?_;rw[T]at e;cases e
  |none=>
   exact wP ⟨J,rfl,y,_,I.write (o:=.dK _) (Ms w) (.inl rfl) (λb uo Y P=>(m.2 b Y).trans P) (let ⟨q,_,_,K,_⟩:=c;⟨q,K⟩) ⟨by lia,hs,_,Ml A _ C,c⟩,C,S a⟩
def Hb(p:Er)(k y:MV)(a:Sto):R Er:=match BV a p with
 |some (l,kvs)=>if AR k=true/\kvs.length<1000000 then(match look kvs k with
  |some d=>.ok (.val d) a
  |none=>.ok (.val y) (a.set l (.dic (putK kvs k y))))else .no
 |none=>.no
def YQ(p:Er)(rs:List Er)(S:Sto):R Er:=match rs with
 |[.val k,r]=>(cG r S).bind λy a=>Hb p k y a
 |_=>.no
def M8:Fc X W (rSX X) YQ:=by
 intro p rs x vs α S M H Q u wd x0 U C a
 match rs,C,a with
 |[],_,a=>exact a.elim
 |[.val _],_,a=>exact a.elim
 |.new _::_,_,a=>exact a.elim
 |.val _::_::_::_,_,a=>exact a.elim
 |[.val k,r],C,a=>
  cases C with
  |cons dk n1 l1=>
   cases l1 with
   |cons d n2 l2=>
    cases l2;refine(eQ wd x0 d).o λd' T α' e' G L q J=>?_;have a:Post X.g W u M ((cG r S).bind λy S1=>Hb p k y S1) Q:=a;rw[e']at a;have a:Post X.g W u M (Hb p k d' T) Q:=a;unfold Hb at a;split at a
    .rename_i l w O;split at a
     .rename_i N
      have D:DenX X.K α' H p x:=by
       cases p with
       |val m=>exact Den.ex0 L U
       |new ds=>cases O
      refine(Uj q O D).j λc P V=>V.g λac A hS b B _=>?_;subst ac;obtain⟨k',o⟩:=ü.mp N.1;obtain⟨F,Z⟩:=qF B (Gk o);have Y:=Gn o (Den.ex0 L dk.1);subst Y;refine Zw P c k' _ ⟨rfl,rfl,b,?_,(λv j=>?_),(λj=>?_)⟩
      .rw[B.length];exact ê N.2 (fits (à _))
      .cases s:look w k with
       |some d2=>
        refine(F d2 s).a λv' E I=>?_;rw[E]at j;cases j;rw[s]at a;exact(Post.shift G a).val q I
       |none=>rw[Z s]at j;cases j
      .cases s:look w k with
       |some d2=>refine(F d2 s).a λv' E I=>?_;rw[E]at j;cases j
       |none=>
        rw[s]at a;exact(Post.shift (G.trans (q.writex A b.nf)) a).val (q.write A b.nf (.inl ⟨_,zO,(UU B (Gk o) J).ex0 (q.writex A b.nf).toEx0⟩)) (J.ext (q.writex A b.nf))
     .exact a.elim
    .exact a.elim
def M9(w:zP X W o f)(y:(GY X W (e::es) af))
  (hbase:attributeBase o "setdefault" X.env (eval o X.env)=eval o X.env:=by rfl)
  (hfew:((backTo pos (starEach (e::es) X.env)).all (λx=>!x.1)&&(backToKw pos (keywordEach [] X.env)).all (λx=>x.1.isSome)
   &&decide ↑6)=true:=by rfl)
  (hline:(apos.endLine==pos.line)=true:=by rfl) (hs:q9 X e es:=by rfl) (hplain:Q1 X pos es:=by rfl):
  zP X W (.Call (.Attribute o "setdefault" apos) (e::es) [] pos) (λj S=>(f j S).bind λp m=>if KI p m=true then(af j m).bind λrs S2=>YQ p rs S2 else .no):=by
 refine w.a λT w I=>?_;refine y.a λt y k=>?_;refine Z0 _ (Mn QT PySem.F.plainAttrs_dict PySem.F.slot_dict_setdefault PySem.F.type_dict_setdefault M7 w y hbase hfew hline hs hplain) (λα j S σ H Q N sl q=>I α j S σ H _ N sl (q.bind λu p m a C Y A E D v=>?_));split at v
 .rename_i s;obtain⟨⟨l,P⟩,s⟩:=ü.mp s;refine(Uj E s D.1).j λc xs V=>V.h λZ _ _ K _=>?_;subst Z;exact⟨(Zy c xs rfl K),k a j m σ C _ E (sl.ext A) ((v.shift A).bind λJ rs S2 b G U B M O L=>M8 p rs _ J b S2 C G Q a M B (D.1.ext B) O L)⟩
 .exact v.elim
end
section
variable{C:Addr}
def RMt(P:ś)(w:World)(K:O0)(mg:G0)(base:Heap)(m:Str)(k n:Nat)(c:Str)(F:↑16):Prop:= ∃C a b ps,OC K c C/\Meth K C m a/\FnOk P w K mg base tH k a b ps (JM ⟨K,mg,P,w⟩ n F)/\Binds K b ps []
end
section
def zCA(X:Cx):R2:=λx y H Q=> ∃(a:List (Key×V))(d:Addr)(k:Key)(v:V),x=.ref d/\y=kV k/\DK X H d a/\jC a k=some v/\Q v H
def QW(p q:Er)(S:Sto):R Er:=match BV S p,q with
 |some (_,kvs),.val k=>if AR k=true then(match look kvs k with |some d=>.ok (.val d) S|none=>.no)else .no
 |_,_=>.no
def Uv:PR X W (zCA X) QW:=by
 intro p q x y α S H Q o v A a;unfold QW at a;split at a
 .rename_i l I k F;refine(Uj o F v).j λc u L=>L.g λM J K j s _=>?_;subst M;split at a
  .rename_i m;obtain⟨G,b⟩:=ü.mp m;have w:=Gn b A;subst w;split at a
   .rename_i d E;refine((qF s (Gk b)).1 d E).a λC D B=>?_;exact Zw u c G C ⟨rfl,rfl,j,D,Post.val a o B⟩
   .exact a.elim
  .exact a.elim
 .exact a.elim
def N1(K:zP X W a f)(M:zP X W b g)(hs:HZ b:=by exact λ_ _=>rfl):zP X W (.Subscript a b pos) (λB S=>(f B S).bind λp G=>(g B G).bind λq S2=>QW p q S2):=Xn (by intro j m pins s σ H x y u v Q I C A h c;refine h.l λN d k o T U E L q=>?_;subst T;subst U;subst C;obtain⟨_,hs,O,F,w⟩:=eB I E;refine((DM F k).1 o L).a λP J D=>?_;exact subscriptTail_builtinR w.typeIs slot_dict_getitem.lookup (wpAny_getItem_of (OA A) w.mapOf J ⟨rfl,o,H,I.tok _,D,q⟩) c) Uv K M hs
end
section
variable{o:Expr}
def _root_.L2.Inv.freezeD(I:↑1)(dd:DD X H d xs)(J:DenN X.K α H kvs xs)(T:s.heap.get? d=some ob):Inv X pins σ (yV H d (.frz ob (DN X.prog X.w d xs))) s:=by
 refine(IE I dd J).f λV E hs=>?_;obtain ⟨L,es,P,k,N,D,F,Y,O⟩:=V;have a: ∀zs,H d≠some (.tup zs):=λzs e=>by rcases dd with h|⟨_,h⟩<;>(rw[h]at e;cases e)
 have m: ∀b,H d≠some (.own b):=λb e=>by rcases dd with h|⟨_,h⟩<;>(rw[h]at e;cases e)
 have q: ∀b,H d≠some (.tbl b):=λb e=>by rcases dd with h|⟨_,h⟩<;>(rw[h]at e;cases e)
 have j:H d≠none:=λe=>by rcases dd with h|⟨_,h⟩<;>(rw[h]at e;cases e)
 have ne: ∀{b:Addr}{v:HO},H b=some v->H d≠some v->b≠d:=λe n z=>n (z▸e);refine I.step (ch:=[]) (λ_ z=>nomatch z) (λb o _ _ _ e _=>e) (λb o _ _ _ e _=>⟨_,e⟩) (λb o _ e n=>?_) (λb o _ e=>⟨o,e⟩) (λb zs e=>?_) (λb o u e=>?_) (λb ps e=>?_) (λ_ z=>z) (λb u e=>?_) I.bare
 .rw[zD (λz=>j (by rw[<-z];exact n))];exact n
 .rw[zD (ne e (a zs))];exact e
 .rw[zD (ne e (dd.nf o u))];exact e
 .rw[zD (ne e (q ps))];exact e
 .by_cases B:b=d
  .subst B;rw[zO]at e;cases e;refine⟨T,⟨E,hs,L,es,P,k,N,D,F,O⟩,⟨_,k⟩,?_⟩;rintro W U ⟨S,M,Q,A,y,C,r⟩ G;exact⟨S,M,Q,A,y,G _ C,r⟩
  .rw[zD B]at e;exact(I.hok b u e).stay (λ_ _ _ r=>r) (λc r=>by rw[zD (ne r (m b))];exact r) (λc zs r=>by rw[zD (ne r (a zs))];exact r) λc o u r=>by rw[zD (ne r (dd.nf o u))];exact r
theorem DenN.at'{K:O0}{j}{xs}(q:DenN K α H j xs): ∀{i:Nat}{k},j[i]? =some k-> ∃x,xs[i]? =some x/\Den K α H k.1 (.ref x.2.1):=by
 induction q with
 |nil=>intro i k h;cases h
 |cons hk e a d r l ih=>
  intro i k h;cases i with
  |zero=>cases h;exact Z0 _ rfl a
  |succ i=>exact ih h
end
def KX(l:Bool)(K:O0)(α:B9)(H:Hp)(d:MV)(v:V):Prop:=if l=true then∃es a b,d=.tup es/\v=.ref a/\H a=some (.lst b)/\a∉α/\DenL K α H es b else Den K α H d v
inductive KXL(l:Bool)(K:O0)(α:B9)(H:Hp):List MV->List V->Prop
 |nil:KXL l K α H [] []
 |cons {d v ds vs}:KX l K α H d v->KXL l K α H ds vs->KXL l K α H (d::ds) (v::vs)
section
variable{K:O0}
def KX.ext(x:Ext α H α H')(h:KX l K α H d v):KX l K α H' d v:=by
 cases l with
 |true=>refine h.o λes a b j c h n l=>?_;exact Zv es a b ⟨j,c,x.keep a _ h n,n,DenL.ext x l⟩
 |false=>exact Den.ext x h
def KXL.ext(x:Ext α H α H'): ∀{ds}{vs},KXL l K α H ds vs->KXL l K α H' ds vs:=λa=>by
 induction a with
 |nil=>exact .nil
 |cons h t ih=>exact .cons (h.ext x) (ih)
def KXL.length: ∀{ds}{vs},KXL l K α H ds vs->(vs.length)=ds.length:=λa=>by
 induction a with
 |nil=>exact rfl
 |cons h t ih=>exact by rw[lC0,lC0,ih]
def KXL.append: ∀{ds es}{vs j},KXL l K α H ds vs->KXL l K α H es j->KXL l K α H (ds++es) (vs++j):=λb=>by
 induction b with
 |nil=>exact(λh=>h)
 |cons a t ih=>exact(λh=>.cons a (ih h))
end
open Classical in
def KAt(d:Addr)(a:A0)(b:Nat)(h:Heap):Prop:= ∃o es,h.get? d=some o/\o.ExactDict/\o.data=.dict es b/\es.toList.map (·.key)=a
def KAt.at(x:KAt d us ep h)(m: ∀o,h.get? d=some o->h'.get? d=some o):KAt d us ep h':=let ⟨o,es,a,r⟩:=x;(Zy o es (m o a) r)
theorem KAt.size(x:KAt d us ep h): ∃o es,h.get? d=some o/\o.ExactDict/\o.data=.dict es ep/\es.size=us.length/\ ∀i (hi:i<es.size),us[i]? =some es[i].key:=by refine x.k λo es b a c e=>?_;refine YZ o es b a c (by rw[<-e,lM0,á]) (λi hi=>?_);rw[<-e,î,ø,ó hi];rfl
section
variable{E:VP}{s:ř}
def OJ(hs:(d==sysModules)=false)(k:KAt d us ep s.heap)
  (hQ:Q (.ref ↑0) {s with heap:=s.heap.push {cls:=.type "dict_keyiterator",data:=.fields #[.ref d,.int 0 0,.int us.length 0,.int ep 0]}}):wpAny (model P w) A (pyIter (.ref d)) Q E s:=by
 refine k.size.j λo es q=>q.h λj m a c _=>?_;have b:s.TypeIs (.ref d) "dict":=⟨o,j,m.1⟩
 refine wpAny_pyIter_slot b PySem.F.slot_dict_iter (õ PySem.F.slot_dict_iter b PySem.F.entry_dict_iter ?_ (PySem.F.args_dict_iter_1 _));refine wB ?_;refine wB (wpAny_notOrdered_dict b ?_);refine wP ?_;show wpAny _ _ (Builtin.Dict.showsAll d >>= _) _ _ s;unfold Builtin.Dict.showsAll;rw[iN0 (by rw[hs];exact xF0)];rw[21];refine wB (wpAny_dictEntries j a ?_);refine wB (wpAny_dictEpoch j a ?_);refine wB (Ą (wP ⟨_,rfl,_,_,(Z0 _ (ã _ rfl) rfl),PySem.F.slot_dict_keyiterator_next.lookup,?_⟩));simpa [rawInt,c]using hQ
theorem VD(a:s.heap.IsKeyIter it d i us.length ep)(C:KAt d us ep s.heap)(B:us[i]? =some x)
  (hQ: ∀h',h'.IsKeyIter it d (i+1) us.length ep->Heap.SameBut it s.heap h'->Q (some x) {s with heap:=h'}):wpAny (model P w) A (pyNext (.ref it)) Q E s:=by
 refine(id a).c λo v D u=>?_;refine C.size.j λH es I=>I.h λj G k m q=>?_;have b:i<es.size:=by rw[m];exact((gS.mp B).1)
 (refine wB (wpAny_attempt (ď a.typeIs PySem.F.slot_dict_keyiterator_next (õ PySem.F.slot_dict_keyiterator_next a.typeIs PySem.F.entry_dict_keyiterator_next ?_ (PySem.F.args_dict_keyiterator_next_1 _)))));refine wB (wP (wB (wB ?_)))
 first |refine wB (Ĵ a.typeIs (wP ?_))|refine wB _
 refine wB (wpAny_fieldsOf v u ?_);have y:Builtin.Dict_items.ownsTuple "dict_keyiterator"=false:=by decide
 (show wpAny _ _ (if _=true then _ else _) _ _ s);refine wB (wP (wB (wpAny_dictEntries j k ?_)));rw[iN0 (by rw[m];simp)];refine wB (wP (wB (wpAny_dictEpoch j k ?_)));(rw[iN0 (by simp)]);refine wP ?_;simp only[show¬(_<0)from by lia,Ē,ó b];refine wB ?_
 first |refine wB (Ĵ a.typeIs (wP ?_))|refine wB _
 refine wB (wpAny_isOneOf_keyiter a.typeIs ?_);show wpAny _ _ (setField _ 1 _ >>= _) _ _ s;refine wB (ħ v u (by simp) ?_)
 have c:(s.heap.update it (Obj.mapFields (·.setIfInBounds 1 (rawInt ((i:Int)+1))))).IsKeyIter it d (i+1) us.length ep:=
  (ZB _ (ö _ v (Ļ (Ĥ u _))) ((Obj.cls_mapFields ..).trans D) (by rw[Ĥ u];simp[rawInt]))
 refine wB (û ?_);refine wB (wpAny_isOneOf_keyiter c.typeIs ?_);(show wpAny _ _ _ _ _ _);exact wP (wP (Z0 _ rfl (wP ((by have:=q i b;rw[B]at this;exact(å this).symm)▸hQ _ c (ć ..)))))
def VE(C:(A.handled=none))(a:s.heap.IsKeyIter it d i us.length ep)(v:KAt d us ep s.heap)(B:us.length<=i)
  (hQ: ∀h',Heap.ExtBut it s.heap h'->Q none {s with heap:=h'}):wpAny (model P w) A (pyNext (.ref it)) Q E s:=by
 refine(id a).c λo m G q=>?_;refine v.size.j λD es I=>I.h λb y c j u=>?_;(refine wB (wpAny_attempt (ď a.typeIs PySem.F.slot_dict_keyiterator_next (õ PySem.F.slot_dict_keyiterator_next a.typeIs PySem.F.entry_dict_keyiterator_next ?_ (PySem.F.args_dict_keyiterator_next_1 _)))));refine wB (wP (wB (wB ?_)))
 first |refine wB (Ĵ a.typeIs (wP ?_))|refine wB _
 refine wB (wpAny_fieldsOf m q ?_);have k:Builtin.Dict_items.ownsTuple "dict_keyiterator"=false:=by decide
 (show wpAny _ _ (if _=true then _ else _) _ _ s);refine wB (wP (wB (wpAny_dictEntries b c ?_)));rw[iN0 (by rw[j];simp)];refine wB (wP (wB (wpAny_dictEpoch b c ?_)));(rw[iN0 (by simp)]);refine wP ?_;simp only[iF,Ē,Array.getElem?_eq_none (by rw[j];exact B)];refine wB ?_
 first |refine wB (Ĵ a.typeIs (wP ?_))|refine wB _
 show wpAny _ _ (setField _ 0 .none >>= _) _ _ s;refine wB (ħ m q (by simp) ?_);refine wB ?_;refine wB (Ą ?_ (by size_fits));refine wB (wpAny_of_eq (by first |rfl|(simp only[firstArgMember];rfl)) ?_);refine Ą ?_ (by size_fits);refine wB (wpAny_handled ?_);rw[show A.in1.handled=none from C];refine wB (wP (wpAny_throw ?_));refine wB (ģ (Z0 _ (ã _ rfl) rfl) isSubtype_stop ?_);exact wP (hQ _ (((ć ..).extBut.push _).push _))
def Hc(hh:(A.handled=none))(I)(hne:d≠I)(us)(ep):Walks P w A I [I,d] [I] us.length (λi x=>us[i]? =some x) (λi h=>h.IsKeyIter I d i us.length ep/\KAt d us ep h) where
 sub:=λb hb=>by simp at hb;simp[hb]
 frame:=λ_ _ _ st hk=>⟨st.1.at λo e=>hk I (by simp) o e,st.2.at λo e=>hk d (by simp) o e⟩
 item:=λi s Q E hi st hQ=>by have hx:=gE hi;refine VD st.1 st.2 hx λh' hit' hs'=>?_;exact hQ _ h' s.toks hx ⟨hit',st.2.at λo e=>hs'.extBut d o hne e⟩ λb o hb e=>hs'.extBut b o (λh=>hb (by simp[h])) e
 done:=λs Q E st hQ=>VE hh st.1 st.2 (à _) λh' he'=>hQ h' s.toks λb o hb e=>he' b o (λh=>hb (by simp[h])) e
 self:=λ_ _ _ _ st hQ=>wpAny_pyIter_keyiter st.1 hQ
def Mz(us)(ep):PySem.W.KdlSrc P w "dict" d d us.length (λi x=>us[i]? =some x) (λh=>(d==sysModules)=false/\KAt d us ep h) where
 type:=λ_ hm=>let ⟨o,_,ho,hc,_⟩:=hm.2;⟨o,ho,hc.1⟩
 there:=λ_ hm=>⟨let ⟨_,_,ho,_⟩:=hm.2;â ho,let ⟨_,_,ho,_⟩:=hm.2;â ho⟩
 keep:=λ_ _ hm hk=>⟨hm.1,hm.2.at λo e=>hk d (.inl rfl) o e⟩
 notList:=by decide
 notTuple:=by decide
 hint:=λ_ _ _ _ hm hq=>PySem.W.kdl_hint_dict (let ⟨o,_,ho,hc,_⟩:=hm.2;⟨o,ho,hc.1⟩) hq
 iter:=λ_ _ hh hm=>(ZC _ _ (λ_ _ hq=>OJ hm.1 hm.2 hq) (Hc hh _ (ä (let ⟨_,_,ho,_⟩:=hm.2;â ho)) us ep) ⟨(ZB _ (ã _ rfl) rfl rfl),hm.2.at λo e=>hP0 _ e⟩)
end
section
def Na{K:O0}: ∀{j}{xs},DenN K α H j xs->DenL K α H (j.map (·.1)) (xs.map λx=>V.ref x.2.1):=λb=>by
 induction b with
 |nil=>exact yA
 |cons hk e a d r l ih=>exact zV a (ih)
theorem VF: ∀(xs:List (NK×Addr×Ś)),Vals (xs.map λx=>V.ref x.2.1) (xs.map λx=>Value.ref x.2.1)
 |[]=>.nil
 |x::xs=>.cons rfl (VF xs)
theorem YR:CallR X (.type "list") (λxs H Q=> ∃d zs α k,xs=[.ref d]/\DD X H d zs/\DenN X.K α H k zs/\X.calm=true/\ ∀p,H p=none->Q (.ref p) (yV H p (.lst (zs.map λx=>V.ref x.2.1)))):=by
 intro pins s σ H xs S Q I r h;refine h.l λd zs α k T J E L q=>?_;subst T;refine(vals1 r).a λu U C=>?_;subst U;subst C;refine(IE I J E).f λY v hs=>?_;obtain ⟨o,es,y,P,m,B,D,_,_⟩:=Y;have A:KAt d (zs.map λx=>Value.ref x.2.1) y s.heap:=(Zr o es P m B (by refine qq D (qq ą ?_);rfl))
 refine PySem.W.kdl_call (Mz _ y) (I.ok.hd L) ⟨hs,A⟩ (by rw[lM0];exact v) λh' tk b F N M a=>?_
 have G:b.toList=zs.map λx=>Value.ref x.2.1:=by
  refine Ņ λj=>?_;by_cases O:j<b.size
  .have c:=ó O;rw[ø,c];exact(a.2 j _ c).symm
  .have c:(zs.map λx=>Value.ref x.2.1).length<=j:=by have:=a.1;lia
   rw[ø,Array.getElem?_eq_none #[0],Ď c]
 refine ZC (.ref ↑0) _ (I.laid N (à _) (show ObjOk X.prog X.w _ h' _ (.lst _)from⟨by rw[lM0];exact v,b.toList,F,by rw[G];exact VF zs,?_⟩)) rfl (q _ (I.hok.fresh (à _)));exact M
def FL:List Er->Sto->R Er
 |[r],S=>match DF S r with |some (_,kvs)=>.ok (.new (kvs.map (·.1))) S|none=>.no
 |_,_=>.no
def Nb(q:X.calm=true):aT X W (λxs H Q=> ∃d zs α j,xs=[.ref d]/\DD X H d zs/\DenN X.K α H j zs/\X.calm=true/\ ∀p,H p=none->Q (.ref p) (yV H p (.lst (zs.map λx=>V.ref x.2.1)))) FL:=by
 intro A w α S H Q k d a;unfold FL at a;split at a
 .split at a
  .rename_i n j e;refine(eZ d).a λv C u=>?_;subst C;refine(XZ k e u).j λc xs B=>B.h λD m y o b=>?_;subst D;exact Zw c xs (α) j ⟨rfl,o,b,q,(λp s=>a.newl k s (Na b))⟩
  .exact a.elim
 .exact a.elim
end
mutual
def LY:Expr->List Str
 |.Name x _=>[x]
 |.Tuple es _ _=>zCB es
 |_=>[]
def zCB:List Expr->List Str
 |[]=>[]
 |e::es=>LY e++zCB es
end
section
variable{pos:Pos}
noncomputable abbrev gnN(T:D0)(N:D0)(a:Db):List Str:=[]++T++a.map λi=>(N[i]?).getD Str.empty
def Nc(a:FnScope N ps osc)
  (hi:UC X W tg iter itf) (hg: ∀C j m fp,(gnN (LY tg) N idx).Nodup->Kn (LY tg).length (zM X sc (LY tg) idx C j m fp) W0 tg gf)
  (hc: ∀C j m fp,QA (zM X sc (LY tg) idx C j m fp) W0 ifs cf) (he: ∀C j m fp,zP (zM X sc (LY tg) idx C j m fp) W0 elt ef)
  (hcalm:X.calm=true:=by rfl) (e1:(X.env.scope)=osc:=by rfl) (e2:X.N=N:=by rfl) (hB:tP osc N sc idx=true:=by decide+kernel) (hN:(gnN (LY tg) N idx).Nodup:=by decide+kernel)
  (hs: ∀y,foldedSetIterable iter X.env y=pure y:=by intro _;rfl):
  zP X W ↑15 (λq S=>(itf q S).bind λk u=>if (k.ds.length)<1000000 then(zW gf cf ef (WO (LY tg).length idx q) k.gs k.ds u).bind λout S2=>.ok (.new out) S2 else .no):=Ap osc N _ idx hi hcalm hg hc he e1 e2 hB hN hs
def Nd{x:Str}{b a:Pos}{i:Nat}(c:FnScope N ps osc)
  (hi:UC X W tg iter itf) (hg: ∀C j m fp,(gnN (LY tg) N idx).Nodup->Kn (LY tg).length (zM X sc (LY tg) idx C j m fp) W0 tg gf)
  (hc: ∀C j m fp,QA (zM X sc (LY tg) idx C j m fp) W0 ifs cf) (he: ∀C j m fp,zP (zM X sc (LY tg) idx C j m fp) W0 elt ef)
  (hcalm:X.calm=true:=by rfl) (e1:(X.env.scope)=osc:=by rfl) (e2:X.N=N:=by rfl) (hB:tP osc N sc idx=true:=by decide+kernel) (hN:(gnN (LY tg) N idx).Nodup:=by decide+kernel)
  (hs: ∀y,foldedSetIterable iter X.env y=pure y:=by intro _;rfl)
  (hi2:X.N[i]? =some x:=by rfl) (hx:Loc (X.env.scope) x:=by first |exact Or.inl rfl|exact Or.inr rfl)
  (hsw:swapsWith ↑15 (some (.Name x b)) a.line X.env=pure true:=by with_unfolding_all rfl) (hf:Q2 X x:=by first |exact .inl rfl|exact .inr rfl|assumption):
  IA X W (.Assign [.Name x b] ↑15 a) (λq S=>((itf q S).bind λk u=>if (k.ds.length)<1000000 then(zW gf cf ef (WO (LY tg).length idx q) k.gs k.ds u).bind λout S2=>.ok (.new out) S2 else .no).bind (JI q i)):=Rt i (by rw[e2];exact c.nd) osc N _ idx hi hcalm hg hc he e1 e2 hB hN hs hi2 hx hsw hf
end
section
variable{K:O0}{x:Str}{st:Stmt}
abbrev ScK(N ps:D0)(a:Scope):Prop:=N.Nodup/\N.take ps.length=ps/\(∀x∈ps,a.names.lookup x=some .local\/a.names.lookup x=some .cell)/\ ∀y∈a.names,y.2≠.free
def okL(Fb)(F:Fun K x qual st f fd)
  (h: ∀ j  A  outer  s  H  E ,N.Nodup->FnScope N ps (zI st)->Room k (A.deeper (envOfC qual (zI st) ↑0 f j))->tI (IU tH P w K mg base N qual (zI st) f j A outer s H E).nox W0 (xW st) Fb)
  (h4:ScK N ps (zI st):=by decide+kernel) (a:(zI st).kind=.function:=by rfl) (b:(zI st).isCoroutine=false:=by rfl) (c:(zI st).isGenerator=false:=by rfl):
  FnOk P w K mg base tH (k+1) f fd ps (JM ⟨K,mg,P,w⟩ ps.length λds S=>zN (Fb (zH N ds) S)):=
 have m:=⟨a,b,c,h4.1,h4.2.1,h4.2.2.1,h4.2.2.2⟩
 okM Fb F m λj A outer s H E o=>h j A outer s H E m.nd m o
def N2:Nat->(List Ś->Prop)->Prop
 |0,p=>p []
 |n+1,p=> ∀a,N2 n λl=>p (a::l)
theorem zCC: ∀ j {p},N2 (j.length) p->p j
 |[],_,h=>h
 |a::l,_,h=>zCC l (h a)
def Nf(h:N2 n p)(us)(e:us.length=n):p us:=zCC us (e▸h)
def okA(Fb)(D:DefM K mg x st)
  (h: ∀ f  j  A  outer  s  H  E ,N.Nodup->FnScope N ps (zI st)->Room k (A.deeper (envOfC x (zI st) ↑0 f j))->tI (IU tH P w K mg base N x (zI st) f j A outer s H E).nox W0 (xW st) Fb)
  (hb:YI x st ps:=by exact λ_ _ _ _ _ _=>Nf (by(repeat intro _);rfl))
  (h4:ScK N ps (zI st):=by decide+kernel) (a:(zI st).kind=.function:=by rfl) (b:(zI st).isCoroutine=false:=by rfl) (c:(zI st).isGenerator=false:=by rfl):
  xD P w K mg base x (k+1) ps.length ps λds S=>zN (Fb (zH N ds) S):=
 okC D hb λf _ F=>okL Fb F (h f) h4 a b c
end
def zCD(P:ś)(w:World)(d:Addr)(o:Obj)(xs:List (NK×Addr×Ś)):It:=
 ⟨λi H=>H d=some (.frz o (DN P w d xs))/\i<↑12,
   λi H v H'=>H'=H/\ ∃x,xs[i]? =some x/\v=.ref x.2.1,
   λi H=>H d=some (.frz o (DN P w d xs))/\↑12<=i⟩
def He{K:O0}(hc0:o.ExactDict)(hdat:o.data=.dict es ep)(hes:es.toList=xs.map (entryOfKey (pW P w))):
  Turn P w K tg (zCD P w d o xs) [it] it (λi h=>h.IsKeyIter it d i ↑12 ep) where
 mem:=by simp
 obj:=λi h st b hb=>by cases mS.mp hb;refine st.c λo e c d=>?_;exact Z0 o e (λv z=>by rw[d]at z;cases z)
 keep:=λi h h' st k=>st.at λo e=>k it (by simp) o e
 item:=by
  (intro X hP hw hK hc i pins s σ H E I hf st hg);subst hP hw hK;obtain⟨hd,hi⟩:=hg;obtain⟨hod,_⟩:=(I.hok d _ hd)
  have va:KAt d (xs.map λx=>Value.ref x.2.1) ep s.heap:=⟨o,es,hod,hc0,hdat,by rw[hes,ą];rfl⟩
  refine(hf it (by simp)).g λf0 f1 f2 f3 f4 f5=>?_;rw[<-lM0]at st ⊢;refine VD st va (by rw[î,gE hi];rfl) λh' st' sb=>?_;have I1:Inv X pins σ H {s with heap:=h'}:=I.turned (λb o hb e=>(sb.2 b hb).trans e) f0 f1 f3 f4 f5;refine(id st').c λo' e c dd=>?_;exact Z0 _ rfl (Ac e c dd ↑4 (YZ (.ref xs[i].2.1) H I1 rfl ⟨rfl,_,gE hi,rfl⟩ st' (λb hb=>(hf b hb).1)))
 done:=by
  (intro X hP hw hK hc i pins s σ H E I hf st hg);subst hP hw hK;obtain⟨hd,hi⟩:=hg;obtain⟨hod,_⟩:=(I.hok d _ hd)
  have va:KAt d (xs.map λx=>Value.ref x.2.1) ep s.heap:=⟨o,es,hod,hc0,hdat,by rw[hes,ą];rfl⟩
  refine(hf it (by simp)).g λf0 f1 f2 f3 f4 f5=>?_;rw[<-lM0]at st;exact VE (I.ok.hd hc) st va (by rw[lM0];exact hi) λh' eb=>⟨rfl,I.turned (λb o hb e=>eb b o hb e) f0 f1 f3 f4 f5⟩
 self:=λ_ _ _ _ _ st h=>wpAny_pyIter_keyiter st h
section
variable{X:Cx}
def zCE(X:Cx)(R:It->Hp->Prop)(x:V)(H:Hp):Prop:= ∃d xs α a,x=.ref d/\DenN X.K α H a xs/\
 ((DD X H d xs/\ ∀o,R (zCD X.prog X.w d o xs) (yV H d (.frz o (DN X.prog X.w d xs))))\/ ∃o,H d=some (.frz o (DN X.prog X.w d xs))/\R (zCD X.prog X.w d o xs) H)
def Uw(j:PE X e te):PI X tg e (λσ H R=>te σ H λx G=>zCE X R x G):=by
 intro pins s σ H R I h;refine xV (j pins s σ H _ I h) λv B ⟨x,G,I1,r1,W⟩=>?_;refine W.p λd xs α M V=>V.f λac L q=>?_;subst ac;subst r1
 have K: ∀(c:Obj)(es:Array DictEntry)(m:Nat),B.heap.get? d=some c->c.ExactDict->c.data=.dict es m->es.toList=xs.map (entryOfKey (pW X.prog X.w))->(d==sysModules)=false->
   (∀h',(∀b o,B.heap.get? b=some o->h'.get? b=some o)-> ∃D,(∀b,b≠d->D b=G b)/\Inv X pins σ D {B with heap:=h'}/\R (zCD X.prog X.w d c xs) D)->wpAny ↑5 X.A (pyIter (.ref d)) (PIE X pins σ tg R) X.xe B:=by
  intro c es m a y u j hs k;have P:KAt d (xs.map λx=>Value.ref x.2.1) m B.heap:=(Zr c es a y u (by refine qq j (qq ą ?_);rfl))
  refine OJ hs P ?_;rw[lM0];obtain⟨D,F,T,q⟩:=k _ λb o e=>hP0 _ e;refine Zp _ _ _ _ _ ⟨rfl,T,He y u j,(ZB _ (ã _ rfl) rfl rfl),(λb J=>?_),q⟩;cases mS.mp J;have N:=Ĕ (â a);refine(I1.fpOk (à _) (I1.hok.fresh (à B.heap.objs.size))).g λ_ Y O Q c5 S=>?_;exact⟨by rw[F _ N];exact I1.hok.fresh (à _),Y,O,Q,c5,S⟩
 rcases q with⟨dd,q⟩|⟨o,ho,q⟩
 .obtain⟨⟨c,es,m,a,y,u,j,hk,Z⟩,U,hs⟩:=IE I1 dd L;exact K c es m a y u j hs λh' E=>(ZB _ (λb J=>zD J) ((I1.kept E).freezeD dd L (E d c a)) (q c))
 .obtain⟨a,⟨U,hs,o',es,m,C,y,u,j,Z⟩,_⟩:=(I1.hok d _ ho)
  rw[a]at C;cases C;exact K o es m a y u j hs λh' E=>(ZB G (λ_ _=>rfl) (I1.kept E) q)
noncomputable def Bw(S:Sto):Er->Option (List (MV×MV))
 |.val (.loc l)=>match S[l]? with |some (.fdc kvs)=>some kvs|_=>none
 |_=>none
def QX(p:Er)(S:Sto):R Wk:=match DF S p with
 |some (l,kvs)=>.ok ⟨kvs.map (·.1),[]⟩ (S.set l (.fdc kvs))
 |none=>match Bw S p with
  |some kvs=>.ok ⟨kvs.map (·.1),[]⟩ S
  |none=>.no
theorem VG:zAV X.g (zCD X.prog X.w c ob xs) (λ α   S   H =>H c=some (.frz ob (DN X.prog X.w c xs))/\DenN X.K α H kvs xs) (kvs.map (·.1)):=by
 intro i q B y ⟨m,j⟩ u;have o:=(j.length);refine⟨λhi=>?_,λhi=>⟨m,by rw[lM0]at hi;lia⟩⟩;rw[lM0]at hi;refine⟨⟨m,by lia⟩,?_⟩;rintro _ _ ⟨rfl,x,v,rfl⟩;obtain⟨k,b⟩: ∃k,kvs[i]? =some k:=⟨_,gE hi⟩
 refine(j.at' b).a λA a s=>?_;rw[v]at a;cases a;exact⟨Ext.refl _ _,u,⟨m,j⟩,k.1,by rw[î,b];rfl,s⟩
def Ux(E:zP X W e f):UC X W tg e (λG S=>(f G S).bind QX):=by
 refine E.a λt E k=>?_;refine Z0 _ (Uw E) (λα G S σ H Rc wd sl q=>k α G S σ H _ wd sl (q.bind λu p K j M e1 Q B N s=>?_))
 replace s:=s.shift Q
 unfold QX at s;split at s
 .rename_i l m ed;refine(XZ B ed N.1).j λc xs V=>V.h λac b O F y=>?_;subst ac;refine Zw c xs j m ⟨rfl,y,.inl ⟨F,λob=>?_⟩⟩;have J:=B.writex b F.nf (o:=.frz ob (DN X.prog X.w c xs));have A:=y.ex0 J.toEx0;have Y:=B.write b F.nf (ob:=.fdc m) (Zy ob xs zO A);exact(s.shift J).here Y ⟨_,VG,⟨zO,A⟩,λj K M D U T ⟨I,C⟩ x w _=>⟨x.frz _ _ _ I,C.ex0 x.toEx0⟩,jB⟩
 .split at s
  .rename_i m v;unfold Bw at v;split at v
   .rename_i l;split at v
    .rename_i z O;cases v;refine(eW N.1).a λa al b=>?_;subst al;refine(B.of b).a λob L hO=>?_;rw[O]at L;cases L;refine hO.d λZ xs P y=>?_;exact Zw a xs j m ⟨rfl,y,.inr ⟨Z,P,s.here B ⟨_,VG,⟨P,y⟩,λj K M D U T ⟨I,C⟩ x w _=>⟨x.frz _ _ _ I,C.ex0 x.toEx0⟩,jB⟩⟩⟩
    .cases v
   .cases v
  .exact s.elim
end
section
variable{pos:Pos}
def Ng(a:FnScope N ps osc)
  (hi:UC (zM X0 sc0 T0 idx0 C0 s0 H0 fp0) W tg iter itf) (hg: ∀C j m fp,(gnN (LY tg) (gnN T0 N idx0) idx).Nodup->Kn (LY tg).length (zM (zM X0 sc0 T0 idx0 C0 s0 H0 fp0) sc (LY tg) idx C j m fp) W0 tg gf)
  (hc: ∀C j m fp,QA (zM (zM X0 sc0 T0 idx0 C0 s0 H0 fp0) sc (LY tg) idx C j m fp) W0 ifs cf) (he: ∀C j m fp,zP (zM (zM X0 sc0 T0 idx0 C0 s0 H0 fp0) sc (LY tg) idx C j m fp) W0 elt ef)
  (hcalm:X0.calm=true:=by rfl) (e1:X0.env.scope=osc:=by rfl) (e2:X0.N=N:=by rfl) (hB:tP (rlS sc0 osc) (gnN T0 N idx0) sc idx=true:=by decide+kernel) (hN:(gnN (LY tg) (gnN T0 N idx0) idx).Nodup:=by decide+kernel)
  (hs: ∀y,foldedSetIterable iter (zM X0 sc0 T0 idx0 C0 s0 H0 fp0).env y=pure y:=by intro _;rfl):
  zP (zM X0 sc0 T0 idx0 C0 s0 H0 fp0) W ↑15 (λq S=>(itf q S).bind λk u=>if (k.ds.length)<1000000 then(zW gf cf ef (WO (LY tg).length idx q) k.gs k.ds u).bind λout S2=>.ok (.new out) S2 else .no):=by
 subst e1 e2;exact Ap _ _ _ idx hi hcalm hg hc he rfl rfl hB hN hs
end
def RMtX(P:ś)(w:World)(K:O0)(mg:G0)(base:Heap)(m:Str)(k n:Nat)(c:Str)(F:↑16):Prop:= ∃C a b ps,OC K c C/\Meth K C m a/\FnOk P w K mg base (Ij P w) k a b ps (Ma ⟨K,mg,P,w⟩ n F)/\Binds K b ps []
def RMtX.noX{K:O0}(T:RMtX P w K mg base m k n c F):RMt P w K mg base m k n c F:=Exists.p T λC b q ps z0=>Zw C b q ps ⟨z0.1,z0.2.1,z0.2.2.1.noX,z0.2.2.2⟩
end M
end L2
namespace L2
open PySem PySem.Spec PyProof.Rows
section
def Mvd.refl:Mvd fs e T h h:=⟨λ_ _ _ _ _ q=>q,λ_ o _ _ q=>⟨o.slots,q⟩,λ_ o q=>⟨o,q⟩⟩
end
end L2
namespace L2
namespace M
open PySem PySem.Spec PyProof.Rows
noncomputable def lp(a:Nat):Nat->Nat×Nat->Nat×Nat
 |0,q=>q
 |n+1,q=>lp a n (SetTable.leap a q.1 q.2)
noncomputable def ad(t:SetTable):Nat->SetTable.Probe->SetTable.Probe
 |0,p=>p
 |n+1,p=>ad t n (t.advance p)
def Way(t:SetTable)(a:Nat->Prop)(h:Int)(j:Nat):Prop:= ∃n,(ad t n (t.probeStart h)).j=j/\ ∀m,m<n->a (ad t m (t.probeStart h)).j
abbrev En:=Nat×Int×Value
structure STI(t:SetTable)(L:List En):Prop where
 pl:t.place.toList=L.map (·.1)
 so:(L.map (·.1)).Pairwise (· <·)
 dm:t.dummies=#[]
 pw: ∃e,t.mask+1=2 ^ e
 od:t.mask % 2=1
 mx:t.mask<=8191
 wy: ∀q∈L,q.1<=t.mask/\Way t (· ∈L.map (·.1)) q.2.1 q.1
 fl:L.length * 5<t.mask * 3
section
def STI.sz(x:STI t L):t.place.size=L.length:=by rw[<-á,x.pl,lM0]
theorem STI.fits(x:STI t L):t.fits L.length=true:=by have:=x.fl;simp only[SetTable.fits,SetTable.fill,x.sz,x.dm,aE,Ħ];exact⟨trivial,by simp;lia⟩
end
section
def OrdD.sub(h:OrdD S ds)(hs: ∀d,d∈es->d∈ds):OrdD S es:=
 ⟨λa j b k=>h.any a (hs a j) b (hs b k),λa j b k c m=>h.tr a (hs a j) b (hs b k) c (hs c m),λa j b k=>h.as a (hs a j) b (hs b k)⟩
end
def Up6(xs:Array Nat):Prop:=xs.toList.Pairwise (· <·)
theorem Up6.at(h:Up6 xs){j:Nat}(a:j<xs.size)(hi:i<j):xs[i]<xs[j]:=List.pairwise_iff_getElem.mp h i j (by simp;omega) a hi
theorem FM(a:Up6 xs)(j): ∀ f lo hi ,hi - lo<=f->lo<=hi->hi<=xs.size->(∀i  h ,i<lo->xs[i]<j)->(∀i  h ,hi<=i->j<=xs[i])->
  (SetTable.below.go xs j f lo hi<=xs.size/\(∀i  h ,i<SetTable.below.go xs j f lo hi->xs[i]<j)/\ ∀i  h ,SetTable.below.go xs j f lo hi<=i->j<=xs[i])
 |0,lo,hi,h1,h2,h3,h4,h5=>by
  have:lo=hi:=by lia
  subst this;exact⟨h3,h4,h5⟩
 |f+1,lo,hi,h1,h2,h3,h4,h5=>by
  unfold SetTable.below.go;by_cases c:lo<hi
  .have b:(lo+hi) / 2<xs.size:=by lia
   rw[iP c];dsimp only;rw[show xs.getD _ j=xs[_ / 2] by simp[b]];have m: ∀i _,i<_ / 2->xs[i]<xs[_ / 2]:=λi h=>a.at b;have k: ∀i (h:i<xs.size),_ / 2<i->xs[_ / 2]<xs[i]:=λi h=>a.at h;split
   .exact FM a j f _ _ #[0] #[0] h3 (by grind) h5
   .exact FM a j f _ _ #[0] #[0] #[0] h4 (by grind)
  .have:lo=hi:=by lia
   rw[iN0 c];subst this;exact⟨h3,h4,h5⟩
theorem vT(a:Up6 xs)(j):SetTable.below xs j<=xs.size/\(∀i  h ,i<SetTable.below xs j->xs[i]<j)/\ ∀i  h ,SetTable.below xs j<=i->j<=xs[i]:=
 FM a j xs.size 0 xs.size #[0] (zero_le _) (à _) (λi h z=>absurd z (Nat.not_lt_zero _)) (λi h z=>by lia)
theorem VH(j:Up6 xs)(hq):SetTable.below xs (xs[q]+1)=q+1:=by
 refine(vT j (xs[q]+1)).f λa b c=>?_;have: ∀h:q+1<xs.size,xs[q]<xs[q+1]:=λh=>j.at h #[0]
 grind
theorem Up6.put(m:Up6 xs)(q:xs[SetTable.below xs j]? ≠some j):Up6 (SetTable.insertAt xs (SetTable.below xs j) j):=by
 refine(vT m j).f λa b c=>?_;unfold Up6;rw[SetTable.toList_insertAt,pairwise_append,pairwise_cons]
 have u: ∀y∈xs.toList.drop (SetTable.below xs j),j<y:=λy k=>by
  obtain⟨i,hi,e⟩:=Ń k;rw[getElem_drop,Array.getElem_toList]at e;have v:=c _ (by simpa using(by rw[č]at hi;simp at hi;lia:SetTable.below xs j+i<xs.size)) #[0];have s:SetTable.below xs j<xs.size:=by rw[č]at hi;simp at hi;lia
  rcases Nat.eq_zero_or_pos i with rfl|hp
  .rw[ó s]at q;simp at e q
   lia
  .have:=m.at (i:=SetTable.below xs j) (j:=SetTable.below xs j+i) (by rw[č]at hi;simp at hi;lia) #[0];have:=c _ s (à _)
   lia
 refine⟨List.Pairwise.sublist (take_sublist ..) m,⟨u,List.Pairwise.sublist (List.drop_sublist ..) m⟩,λx o y k=>?_⟩;obtain⟨i,hi,e⟩:=Ń o;have o:x<j:=by rw[lT]at hi;rw[getElem_take,Array.getElem_toList]at e;exact e▸b i #[0] #[0]
 rcases mC.mp k with rfl|k
 .exact o
 .exact lt_trans o (u y k)
def Uy(e:Int×Ś):Prop:= ∃(n:Nat)(tk:Tok),n<16/\e=((n:Int),.int n tk)
def zCG(m:Nat)(b:Array (Option Nat))(a:Za):Prop:=b.size=m+1/\ ∀j i,b[j]? =some (some i)↔j<=m/\a[i]? =some (j:Int)
theorem Ni(s:15<=m): ∀(l q:Za) ow ,zCG m ow q->(∀h∈l, ∃n:Nat,n<16/\h=n)->(q++l).Nodup->
  ∃u,l.foldl (λv  h=>do
   let (owner,k) <-v;let j <-SetTable.layClean.free m owner (SetTable.turns m) (SetTable.bits h % (m+1)) (SetTable.bits h)
   pure (owner.setIfInBounds j (some k),k+1)) (some (ow,q.length))=some (u,(q++l).length)/\zCG m u (q++l)
 |[],q,ow,h,_,_=>⟨ow,by simp,by simpa using h⟩
 |h::l,q,ow,⟨hs,ho⟩,hl,nd=>by
  refine(hl h (.head _)).a λn G D=>?_;subst D;have C:SetTable.bits n=n:=by unfold SetTable.bits;lia
  have b:_∉q:=λz=>by rw[ĸ]at nd;exact nd.2.2 _ z _ (.head _) rfl
  have B:ow[n]? =some none:=by
   have a:n<ow.size:=by lia
   rw[ó a]
   cases e:ow[n]with
   |none=>rfl
   |some i=>exact absurd (ë ((ho n i).mp (by rw[ó a,e])).2) b
  have o:SetTable.layClean.free m ow (SetTable.turns m) (SetTable.bits n % (m+1)) (SetTable.bits n)=some n:=by
   rw[C,Nat.mod_eq_of_lt #[0]];unfold SetTable.turns SetTable.layClean.free
   rw[show(List.range _).find? (λk=>(ow.getD _ _).isNone)=some 0 by
    obtain⟨c,w⟩: ∃c,SetTable.runEnd m n+1 - n=c+1:=⟨SetTable.runEnd m n - n,by unfold SetTable.runEnd;split<;>lia⟩
    rw[w,List.range_succ_eq_map,List.find?_cons_of_pos (by simp[B])]]
   rfl
  refine(Ni s l (q++[(n:Int)]) (ow.setIfInBounds n (some q.length)) ⟨by simp[hs],λj i=>by grind⟩ (λh y=>hl h (.tail _ y)) (by simpa using nd)).a λu a A=>?_;refine⟨u,?_,by simpa using A⟩;rw[ĕ,Option.bind_eq_bind,Option.bind_some];dsimp only;rw[Option.bind_eq_bind,o];simpa using a
theorem KO(E:15<=m){es:K0}(hs: ∀e∈es.toList,Uy e)(F:(es.toList.map (·.1)).Nodup)(f v)(led pl):
  ∃t' o,SetTable.laid m f v led pl (es.map (·.1))=some (t',o)/\t'.mask=m/\t'.led=led/\t'.plain=pl/\t'.dummies=#[]/\o.toList.Perm (List.range es.size)/\t'.place.toList=(o.filterMap (es[·]?)).toList.map (·.1.toNat)/\Up6 t'.place:=by
 refine(Ni E (es.toList.map (·.1)) [] (Array.replicate (m+1) none) ⟨by simp,λj i=>by simp[Array.getElem?_replicate]⟩ (λh G=>by obtain⟨e,H,rfl⟩:=mM0.mp G;obtain⟨n,tk,B,rfl⟩:=hs e H;exact⟨n,B,rfl⟩) (by simpa using F)).c λb u s D=>?_;simp only[Œ,ġ]at u s D;have q: ∀j i,b.getD j none=some i↔j<=m/\_[i]? =some _:=λj i=>by rw[<-D,Array.getD_eq_getD_getElem?];cases b[j]? <;>simp
 have C:(List.range (m+1)).filterMap (λj=>b.getD j none)=((List.range (m+1)).filterMap λj=>(b.getD j none).map (j,·)).map (·.2):=by rw[map_filterMap];congr 1;funext j;cases b.getD j none<;>rfl
 refine Zb _ _ ⟨(by unfold SetTable.laid SetTable.layClean;rw[<-Array.foldl_toList,Array.toList_map,u];rfl),rfl,rfl,rfl,rfl,?_,?_,?_⟩
 .show(List.map _ _).Perm _;rw[<-C,ĭ (List.Pairwise.filterMap _ (λi j k a y c w z=>k ?_) nodup_range) nodup_range]
  .intro i;rw[mem_filterMap,ú];constructor
   .rintro⟨j,_,I⟩;have:=((q j i).mp I).2;have:=(gS.mp this).1;simpa using this
   .intro hi;refine(hs es[i] (by simp)).d λn tk B e=>?_;exact⟨n,ú.mpr #[0],(q n i).mpr ⟨by lia,by simp[hi,e]⟩⟩
  .have u:=((q i a).mp y).2;have s:=((q j a).mp (z▸w)).2;rw[u]at s;exact Int.ofNat.inj (å s)
 .show List.map _ _=_;rw[Array.toList_filterMap];show _=((List.map _ _).filterMap _).map _;rw[<-C,List.filterMap_filterMap,map_filterMap,map_filterMap];congr 1;funext j
  cases e:b.getD j none with
  |none=>rfl
  |some i=>
   have:=((q j i).mp e).2;rw[î,ø]at this;show some j=((es[i]?).map λe=>e.1.toNat)
   cases A:es[i]? with
   |none=>rw[A]at this;cases this
   |some e=>rw[A]at this;cases e;simp at this;simp[this]
 .show Up6 (List.map _ _).toArray;rw[map_filterMap,show(λj=>Option.map (·.1) ((b.getD j none).map (j,·)))=λj=>(b.getD j none).map λ_=>j by funext j;cases b.getD j none<;>rfl];exact (by refine List.Pairwise.filterMap _ (λi j k a y c w=>?_) List.pairwise_lt_range;refine(Ė.mp y).a λ_ _ J=>?_;subst J;refine(Ė.mp w).a λ_ _ K=>?_;subst K;exact k)
def Tb6(b:Bool)(es:K0)(t:SetTable):Prop:=t.led=b/\t.plain=true/\Up6 t.place/\t.dummies=#[]/\t.place.size=es.size/\es.size<=16/\(∀e∈es.toList,Uy e)/\(t.mask=7/\es.size<=4\/t.mask=31/\5<=es.size/\t.place.toList=es.toList.map (·.1.toNat))
noncomputable def N3:Nat->Nat->Nat
 |0,j=>j
 |k+1,j=>N3 k ((j * 5+1) % 8)
theorem Bx(a:t.mask=7)(b:t.dummies=#[])(h): ∀ f j pt ,pt<32->(∃k,k<f/\N3 k j∉t.place)-> ∃r,SetTable.probe.go t (λ_=>h+1) h f ⟨j,0,j,pt,none⟩=some (.empty r none)/\t.place[SetTable.below t.place r]? ≠some r
 |0,_,_,_,⟨k,hk,_⟩=>absurd hk (Nat.not_lt_zero _)
 |f+1,j,pt,hp,⟨k,hk,hn⟩=>by
  have m:SetTable.has #[] j=false:=rfl;unfold SetTable.probe.go SetTable.slot;by_cases c:t.place[SetTable.below t.place j]? =some j
  .cases k with
   |zero=>exact absurd (Array.mem_of_getElem? c) hn
   |succ k=>
    refine(Bx a b h f _ 0 ↑4 ⟨k,by lia,hn⟩).a λr e q=>?_;refine⟨r,?_,q⟩;simp only[c,ŉ,if_true];rw[iN0 (by rw[Ħ];lia), <-e];unfold SetTable.advance SetTable.leap SetTable.runEnd;simp[a,Nat.div_eq_of_lt hp]
  .exact⟨j,by simp[c,b,m],c⟩
theorem N4(h:Tb6 b es t)(Q:es.size<16){n:Nat}(hn:n<16)(hz: ∀e∈es.toList,e.1≠n)(N:(es.toList.map (·.1)).Nodup)(tk):
  ∃B G,layNew t es n (.int n tk)=(B,G,false,false)/\G.plain=true/\(G.tooFull=false->Tb6 b B G)/\(G.tooFull=true-> ∃J I,relayAll G B (SetTable.grown B.size)=(J,I,false)/\Tb6 b J I):=by
 refine((show ∃j,t.freeSlot n=some (j,false)/\t.place[SetTable.below t.place j]? ≠some j/\(t.mask=31->j=n) by
   obtain⟨_,_,_,X,hs,_,u,C⟩:=h;have hb:SetTable.bits n=n:=by unfold SetTable.bits;lia
   unfold SetTable.freeSlot SetTable.probe SetTable.probeStart SetTable.runEnd SetTable.turns;rcases C with⟨C,h4⟩|⟨C,_,L⟩
   .obtain⟨r,O,K⟩: ∃r,r<8/\r∉t.place:=ł λz=>by
     have:=nodup_range.length_le_of_subset (l₂:=t.place.toList) λr O=>ł λy=>z ⟨r,ú.mp O,by simpa using y⟩;rw[ò,á]at this
     lia
    obtain⟨k,hk,ho⟩:=(show∀j,j<8-> ∀r,r<8-> ∃k,k<8/\N3 k j=r by decide+kernel) _ (mod_lt _ ↑4) r O;obtain⟨q,e,q2⟩:=Bx C X n 220 _ n #[0] ⟨k,by lia,ho▸K⟩;refine⟨q,?_,q2,λz=>by rw[C]at z;cases z⟩;simp only[hb,C];rw[iN0 #[0],sub_self,e];rfl
   .have E:t.place[SetTable.below t.place n]? ≠some n:=λz=>by have:=Array.mem_toList_iff.mpr (Array.mem_of_getElem? z);rw[L]at this;obtain⟨e,w,q⟩:=mM0.mp this;obtain⟨m,tk,C,rfl⟩:=u e w;exact hz _ w (congrArg _ (by simpa using q))
    refine⟨n,?_,E,λ_=>rfl⟩;simp only[hb,C,Nat.mod_eq_of_lt (show n<31+1 by lia)];unfold SetTable.probe.go SetTable.slot;simp[E,X,show SetTable.has #[] n=false from rfl])).c λj e1 e2 e3=>?_;have p1:=layNew_perm t es n (.int n tk);refine h.t λa1 U a3 H a5 a6 a7 S=>?_;have L:t.put j=({t with place:=SetTable.insertAt t.place (SetTable.below t.place j) j},SetTable.below t.place j):=by unfold SetTable.put;rw[show SetTable.has t.dummies j=false by rw[H];rfl];rfl
 have T:(SetTable.insertAt t.place (SetTable.below t.place j) j).size=es.size+1:=by rw[<-á,(SetTable.insertAt_perm ..).length_eq];simp[a5]
 have A:(SetTable.insertAt es (SetTable.below t.place j) ((n:Int),Value.int n tk)).size=es.size+1:=by rw[<-á,(SetTable.insertAt_perm ..).length_eq];simp
 have M:es.size+1<=t.mask:=by rcases S with⟨z,_⟩|⟨z,_⟩<;>lia
 have hf:({t with place:=SetTable.insertAt t.place (SetTable.below t.place j) j}:SetTable).fits (es.size+1)=true:=by simp only[SetTable.fits,SetTable.fill,T,H,aE,ŉ,true_and,é];exact M
 have Q:layNew t es n (.int n tk)=(SetTable.insertAt es (SetTable.below t.place j) ((n:Int),.int n tk),{t with place:=SetTable.insertAt t.place (SetTable.below t.place j) j},false,false):=by unfold layNew;rw[e1];dsimp only;rw[L];dsimp only;unfold SetTable.orStandIn;rw[A,hf];rfl
 rw[Q]at p1;have u: ∀e∈(SetTable.insertAt es _ _).toList,Uy e:=λe w=>by have:=p1.mem_iff.mp w;rw[Array.toList_push,ç,mS]at this;exact this.elim (a7 e) λz=>(Zy n tk hn z)
 have F:((SetTable.insertAt es (SetTable.below t.place j) ((n:Int),Value.int n tk)).toList.map (·.1)).Nodup:=by rw[(p1.map _).nodup_iff,Array.toList_push,Ă,ĸ];exact⟨N,by simp,λa ha c E=>by refine(mM0.mp ha).a λe w V=>?_;subst V;rw[List.map_singleton,mS]at E;exact E▸hz e w⟩
 refine Zr _ _ Q U (λs=>?_) (λs=>?_)
 all_goals simp only[SetTable.tooFull,SetTable.fill,T,H,Array.size_empty,ŏ,é]at s
 .refine⟨a1,U,a3.put e2,H,by rw[T,A],by rw[A];lia,u,S.imp (λ⟨z,_⟩=>⟨z,by rw[A];lia⟩) λ⟨z,v,y⟩=>⟨z,by rw[A];lia,?_⟩⟩;show(SetTable.insertAt ..).toList=_;rw[e3 z,SetTable.toList_insertAt,SetTable.toList_insertAt,y];simp
 .have P:t.mask=7/\es.size=4:=by rcases S with⟨z,_⟩|⟨z,_⟩<;>lia
  obtain⟨I,o,l1,Z,l3,l4,l5,l6,l7,l8⟩:=KO (m:=31) ↑4 u F t.finger _ t.led t.plain;have Y:(o.filterMap ((SetTable.insertAt es (SetTable.below t.place j) ((n:Int),Value.int n tk))[·]?)).toList.Perm (SetTable.insertAt es (SetTable.below t.place j) ((n:Int),Value.int n tk)).toList:=by rw[Array.toList_filterMap];refine(l6.filterMap _).trans ?_;rw[filterMap_getElem?_range]
  have D:=Y.length_eq;rw[á,á,A]at D;have W:I.place.size=es.size+1:=by rw[<-á,l7,lM0,á,D]
  refine Zb _ I ⟨?_,l3.trans a1,l4.trans U,l8,l5,(by rw[W,D]),(by rw[D];lia),(λe w=>u e (Y.mem_iff.mp w)),.inr ⟨Z,by rw[D];lia,l7⟩⟩;unfold relayAll SetTable.relaid;rw[A,P.2,show SetTable.sizeAbove _ - 1=31 from by decide+kernel,l1];dsimp only;rw[iP];simp only[coversAll,SetTable.fits,SetTable.fill,D,W,l5,Z,aE,ŉ,true_and,é];exact⟨List.isPerm_iff.mpr (by rw[<-P.2, <-A];exact l6),by simp[P.2]⟩
def SetZ6(h:Heap)(D:Addr)(M:Za)(b:Bool):Prop:= ∃o es a t,h.get? D=some o/\o.ExactSet/\o.data=.set es a t/\(es.toList.map (·.1)).Perm M/\M.Nodup/\Tb6 b es t
noncomputable def cA(M:Za)(z:Int):List Int:=if z∈M then M else z::M
def yO(zs:Za):List Int:=zs.foldl cA []
theorem IH(h:M.Nodup):(cA M z).Nodup:=by unfold cA;split<;>grind
theorem OL: ∀(zs M:Za),M.Nodup->(zs.foldl cA M).Nodup/\(∀z,z∈zs.foldl cA M↔z∈M\/z∈zs)/\(zs.foldl cA M).length<=M.length+zs.length
 |[],M,h=>⟨h,λz=>by simp,à _⟩
 |y::zs,M,h=>by obtain⟨a,b,d⟩:=OL zs _ (IH h);refine⟨a,λz=>(b z).trans ?_,ì d ?_⟩<;>unfold cA<;>split<;>grind
def qG(zs):(yO zs).Nodup/\(∀z,z∈yO zs↔z∈zs)/\(yO zs).length<=zs.length:=by unfold yO;simpa using OL zs [] nodup_nil
def SetZ6.move(x:SetZ6 h D M b)(m: ∀o,h.get? D=some o->h'.get? D=some o):SetZ6 h' D M b:=by refine x.r λo es c t a r=>?_;exact Zw o es c t ⟨m o a,r⟩
def SetZ6.len(x:SetZ6 h D M b):M.length<=16:=by refine x.q λ_ es _ _ _ _ _ c _ a=>?_;rw[<-c.length_eq,lM0,á];exact a.2.2.2.2.2.1
theorem Tb6.fits(h:Tb6 b es t):t.fits es.size=true:=by refine h.t λ_ _ _ a c k _ j=>?_;simp only[SetTable.fits,SetTable.fill,c,a,aE,ŉ,true_and,é];show es.size<=t.mask;rcases j with⟨z,_⟩|⟨z,_⟩<;>lia
section
variable{n:Nat}{tk:Tok}
def DR(h:n<16):hashInt n=n:=(show∀n:Nat,n<16->hashInt n=n by decide+kernel) n h
def II(h: ∀e∈es,Uy e):ElemsOf (intKind prog w) es:=λe b=>by refine(h e b).d λy tk a j=>?_;subst j;exact⟨(Z0 y (by simp[intKind,Value.isInt]) ((DR a).symm)),rfl⟩
def VI{es:List (Int×Ś)}(h: ∀e∈es,Uy e):z∈es.map (·.1)↔ ∃e∈es,e.2.isInt z=true:=by
 rw[mM0];constructor
 .rintro⟨e,a,rfl⟩;obtain⟨y,tk,_,rfl⟩:=h e a;exact⟨_,a,by simp[Value.isInt]⟩
 .rintro⟨e,a,q⟩;obtain⟨y,tk,_,rfl⟩:=h e a;exact⟨_,a,by simpa [Value.isInt]using q⟩
theorem SetZ6.of(x:SetZ6 h D M b):h.SetOf (intKind prog w) D (λk=>decide (k∈M)) M.length:=by refine x.q λo es q t s j u m _ c=>?_;have a:=c.2.2.2.2.2.2.1;have e:=m.length_eq;rw[lM0,á]at e;refine Zw o es q t ⟨s,j,u,II a,(λk=>?_),(by unfold scanBound;have:=c.2.2.2.2.2.1;lia),c.fits,e⟩;rw[é, <-m.mem_iff,VI a];rfl
theorem N5(hS:SetZ6 s.heap D M b)(Z:n<16)(hl:M.length<16)(h: ∀c h',Heap.SameBut D s.heap h'->SetZ6 h' D (cA M n) b->Q c {s with heap:=h'}):
  wpAny ↑3 A (setAddHashed D (.int n tk) (hashInt n)) Q E s:=by
 refine hS.q λo es ep t J m v C L G=>?_;have u:=G.2.2.2.2.2.2.1;have T:=C.length_eq;rw[lM0,á]at T;have H:=II (prog:=prog) (w:=w) u;have F:(intKind prog w).is n (.int n tk)=true:=by simp[intKind,Value.isInt]
 unfold setAddHashed setAddHashedIn;refine û (wB (Ċ J v G.fits ?_));dsimp only;rw[byScan_of rfl (by unfold scanBound;lia) H,iP rfl];refine wB (wB (ĩ (wB (wpAny_setScan_of F J v G.fits H ?_))));rw[DR Z]
 cases Y:List.findIdx? (λe=>(intKind prog w).is n e.2) es.toList with
 |some j=>
  obtain⟨hj,S,_⟩:=List.findIdx?_eq_some_iff_getElem.mp Y;have O:(n:Int)∈M:=C.mem_iff.mp ((VI u).mpr ⟨_,Ĩ hj,S⟩);exact wP (wP (h _ s.heap (Ğ D s.heap) (by rw[show cA M n=M from iP O];exact Zw o es ep t ⟨J,m,v,C,L,G⟩)))
 |none=>
  have O:(n:Int)∉es.toList.map (·.1):=λy=>by refine((VI u).mp y).a λe P q=>?_;have:=List.findIdx?_eq_none_iff.mp Y e P;rw[show(intKind prog w).is n e.2=true from q]at this;cases this
  have X:cA M n=(n:Int)::M:=iN0 λz=>O (C.mem_iff.mpr z);refine(N4 G #[0] Z (λe P q=>O (mM0.mpr ⟨e,P,q⟩)) (C.nodup_iff.mpr L) tk).k λa B W l2 l3 l4=>?_;have p1:=layNew_perm t es n (.int n tk);have f1:=layNew_fits t es n (.int n tk);rw[W]at p1 f1;rw[Array.toList_push]at p1;have p1:(a.toList.map (·.1)).Perm ((n:Int)::M):=((p1.trans List.perm_append_comm).map Prod.fst).trans (C.cons (n:Int));have s1:=p1.length_eq;rw[lM0,á,lC0]at s1;rw[W];rw[21];rw[l2,hashByValue_scannable 8 rfl,iP rfl];rw[21];simp only[plainKind,if_true];refine wB (wpAny_storeSet_of J v ?_ (by rw[ý];lia));have N:=ö (Obj.putSet a B) J (by rw[putSet_of a B v];rfl);rw[putSet_of a B v]at N;have I:=ć s.heap D (Obj.putSet a B);split
  .rename_i c;refine(l4 (by simpa using c)).d λk K r1 r2=>?_;have p2:=relayAll_perm B a (SetTable.grown a.size);rw[r1]at p2 ⊢;have s2:=p2.length_eq;rw[á,á]at s2;refine wB (wP (wB (wpAny_storeSet_of N rfl (wP (wP (h true _ (I.trans (ć _ D _)) ?_))) (by rw[ý];lia))));have U:=ö (Obj.putSet k K) N (by rw[putSet_of k K rfl];rfl);rw[putSet_of k K rfl]at U;exact Zw _ k _ K ⟨U,m,rfl,X▸(p2.map _).trans p1,IH L,r2⟩
  .rename_i c;exact wP (wP (h true _ I (Zw _ a _ B ⟨N,m,rfl,X▸p1,IH L,l3 (by simpa using c)⟩)))
end
def Uz(h:IntsAre vs zs):(vs.length)=zs.length:=by
 induction h with
 |nil=>rfl
 |cons n t _ ih=>simp[ih]
def Va(h:IntsAre vs zs): ∀{i:Nat}{v},vs[i]? =some v-> ∃z tk,zs[i]? =some z/\v=.int z tk:=by
 induction h with
 |nil=>intro i v e;simp at e
 |cons n t _ ih=>
  intro i v e
  cases i with
  |zero=>simp at e;exact Zy n t rfl e.symm
  |succ i=>exact ih (by simpa using e)
section
variable{R:Result->ř->Prop}{St:Nat->ř->Prop}{zs:Za}
theorem HC(W:PySem.WalksS P w A.in1 I fp wr G n Pv St)(y:D∉fp)(K: ∀i v,Pv i v-> ∃(z:Nat)(tk:Tok),z<16/\zs[i]? =some (z:Int)/\v=.int z tk)(a:zs.length<=16):
  ∀ k i  s ,i+k=n->St i s->SetZ6 s.heap D (yO (zs.take i)) (!fH w)->
   (∀j,PySem.Moved (D::wr) G s j->SetZ6 j.heap D (yO (zs.take n)) (!fH w)->R (.ok (.ret .none)) j)->codeAny (model P w) A (.builtin "set.update.loop" ⟨[.ref D,.ref I],[]⟩) R s
 |0,i,s,hk,st,hs,q=>by have e:i=n:=hk;subst e;refine đ F.entry_set_update_loop ?_;refine qq (Č F.plain_set_update_loop _) ?_;show wpAny _ A.in1 _ _ _ s;refine wB (W.done s _ _ st λj m=>?_);exact wP (q j (m.mono λb a=>.tail _ a) (hs.move λo=>m.heap D o λz=>y (W.sub _ z)))
 |k+1,i,s,hk,st,hs,q=>by
  refine đ F.entry_set_update_loop ?_;refine qq (Č F.plain_set_update_loop _) ?_;show wpAny _ A.in1 _ _ _ s;refine wB (W.item i s _ _ (by lia) st λv j N E m=>?_);refine(K i v N).b λz tk M J T=>?_;subst T;have B:SetZ6 j.heap D _ (!fH w):=hs.move λo=>m.heap D o λz=>y (W.sub _ z);show wpAny _ A.in1 _ _ _ j;refine wB (û ?_);unfold setAdd;refine û (wB ((intKind P w).pyHash (k:=(z:Int)) (by simp[intKind,Value.isInt]) ?_));have hi:i<zs.length:=(gS.mp J).1;refine N5 (s:={j with toks:=j.toks+1}) B M (Ř (qG _).2.2 (by rw[lT];omega)) λc Q H u=>?_;rw[<-((show yO (zs.take (i+1))=cA (yO (zs.take i)) z by unfold yO;refine qq take_add_one (qq J (qq List.foldl_append ?_));rfl):yO _=_)]at u;refine wP ⟨ī F.plain_set_update_loop _,HC W y K a k (i+1) _ (by lia) (W.frame _ j _ _ E (le_succ _) λb a o e=>?_) u λL O C=>?_⟩
  .rw[H.2 b λz=>y (z▸a)];exact e
  .refine q L (PySem.Moved.trans W.gtrans ((m.mono λb a=>.tail _ a).then_heap (le_succ _) λb o a e=>?_) O) C;rw[H.2 b λz=>a (by refine qq z ?_;exact .head _)];exact e
end
section
def N6(c:h.get? a=some (xE b)):SetZ6 h a [] b:=
 ⟨_,#[],0,_,c,⟨rfl,rfl,rfl⟩,rfl,.nil,.nil,rfl,rfl,.nil,rfl,rfl,by simp,by simp,.inl ⟨rfl,by simp⟩⟩
theorem KP(hh:(A.handled=none))(y:s.heap.IsList l items\/s.heap.IsTuple l items)(hv:IntsAre items.toList zs)(hb:zs.length<=16)(S: ∀z∈zs,0<=z/\z<16)
  (h: ∀ h'  tk ,SetZ6 h' ↑0 (yO zs) (!fH w)->↑7->Q (.ref ↑0) {s with heap:=h',toks:=tk}):
  wpAny (model P w) A (call (.type "set") [.ref l]) Q E s:=by
 have U:(items.size)=zs.length:=by rw[<-á];exact Uz hv
 have M: ∀(i:Nat)(v:Ś),items[i]? =some v-> ∃(z:Nat)(tk:Tok),z<16/\zs[i]? =some (z:Int)/\v=.int z tk:=λi v h=>by refine(Va hv (by rw[ø];exact h)).d λz tk a V=>?_;subst V;obtain⟨h0,h1⟩:=S z (ë a);obtain⟨n,rfl⟩:=ĵ h0;exact ZC n tk (by lia) a rfl
 obtain⟨c,tl,aa⟩:=F.called_set.mro;have H:=F.called_set.made;have ab:=F.called_set.sub;refine wpAny_call (codeAny_of_tree ?_);show wpAny _ _ (callAny (.type "set") _) _ _ _;refine wP ⟨Code.quiet_builtin _ ↑10,đ F.entry_type_call ?_⟩;rw[Around.under_plain (weight_type_call_type "set" [.ref l] []) rfl];have h1:=F.called_set.notType;have h2:=F.called_set.canCreate;have ao:=F.typeCall_set_1 (.ref l)
 (repeat (any_goals (first |assumption|wp_step)))
 refine İ (MR (.ref l) (E:=E) (Q₁:=λob s1=>ob=.ref ↑0/\s1={s with heap:=s.heap.push (xE (!fH w))}) ⟨rfl,rfl⟩) λr s1 K=>?_
 cases r with
 |error e=>exact K
 |ok fl=>
  cases fl with
  |ret ob=>
   obtain⟨rfl,rfl⟩:=K;have X:(s.heap.push (xE (!fH w))).get? ↑0=some (xE (!fH w)):=ã _ rfl;have hT:Shared.TypeIs {s with heap:=s.heap.push (xE (!fH w))} (.ref ↑0) "set":=⟨_,X,rfl⟩
   have ag:=F.called_set.init.lookup;have ai:=F.called_set.init.bind (.ref ↑0)
   (repeat (any_goals (first |assumption|wp_step)))
   refine İ (codeAny_call_builtin (R:=wants (λr W=>r=.none/\ ∃h' tk,W={s with heap:=h',toks:=tk}/\SetZ6 h' ↑0 (yO zs) (!fH w)/\ ∀b o,s.heap.get? b=some o->h'.get? b=some o) E)
    F.called_set.init.plain F.entry_set_init (check_set_init_1 hT ?_)) λr2 W q=>?_
   .have ak:=PySem.F.sub_list_set;have ar:=PySem.F.sub_list_frozenset;have aj:(Value.type "list"==Value.type "dict")=false:=by decide
    have aq:=PySem.F.sub_tuple_set;have af:=PySem.F.sub_tuple_frozenset;have ae:(Value.type "tuple"==Value.type "dict")=false:=by decide
    have Z:A.in1.in1.in1.handled=none:=by simp[hh]
    rcases y with y|y
    all_goals
     have k:=y.push (xE (!fH w));obtain⟨⟨oc,od,ah,os⟩,C,J,nl,I⟩:=y;cases J;cases I;have Y:=hP0 (xE (!fH w)) C;have lt:l<s.heap.objs.size:=â C;unfold Builtin.«set.__init__» noKeywords Builtin.Frozenset.updateFrom;generalize T:pyIter=PI
     wp_walk
     subst T
     first |refine Ŀ k ?_|refine wpAny_pyIter_tuple k ?_
     refine wB (wpAny_runValue ?_);have u:l<(s.heap.push (xE (!fH w))).objs.size:=by rw[Ĝ];exact Nat.lt_succ_of_lt lt
     have out:↑0∉[(s.heap.push (xE (!fH w))).objs.size,l]:=by
      rw[Ĝ];intro z;rcases mC.mp z with z|z
      .exact absurd z (ä (ę _))
      .exact absurd (mS.mp z) (Ĕ lt)
     refine HC (by first |(have:=(k:Heap.IsList _ _ _);exact(Walks.list Z _ l (ä u) items).toS)|exact(Walks.tuple Z _ l (ä u) items).toS) (D:=↑0) (zs:=zs) out (λi v G=>M i v G) hb (items.size) 0 _ (Ĳ _) ?_ ?_ ?_
     .exact⟨⟨_,ã _ rfl,rfl,rfl⟩,k.push _⟩
     .exact N6 (hP0 _ X)
     intro s' m j;rw[U,take_length]at j;obtain⟨h',g',d',N,O⟩:=s';have e1:g'=s.gens:=m.gens;have e2:d'=s.drawn:=m.drawn;have e3:O=s.os:=m.os;subst e1;subst e2;subst e3;(show wpAny _ _ _ _ _ _);refine wP ?_;show wpAny _ _ (ret Value.none) _ _ _;refine wP ⟨rfl,h',N,rfl,j,λb o e=>?_⟩;have B:=â e;refine m.heap b o (λz=>?_) (hP0 _ (hP0 _ e));rcases mC.mp z with z|z
     .exact absurd z (ä B)
     .rw[Ĝ]at z;exact absurd (mS.mp z) (ä (Nat.lt_succ_of_lt B))
   .cases r2 with
    |error e=>exact q
    |ok fl2=>
     cases fl2 with
     |ret r=>
      obtain⟨rfl,h',tk,rfl,j,L⟩:=q
      (repeat (any_goals (first |assumption|wp_step)))
      exact h _ _ j L
     |_=>exact q.elim
  |_=>exact K.elim
end
section
variable{E:VP}{D:Addr}{i sl:Nat}
def Vb(w:World)(D a:Nat)(es:K0)(t:SetTable)(sl i:Nat):Option (Ś×Nat):=
 if fH w then((pickOrder (w.params.setOrder D a) es)[i]?).map λe=>(e.2,sl)else match es[SetTable.below t.place sl]?,t.place[SetTable.below t.place sl]? with
  |some (_,x),some j=>some (x,j+1)
  |_,_=>none
def OM(L:(A.handled=none))(c:IG s.heap it (rawInt  sl ) i es.size ep D)(K:SetAt s.heap D es ep t)(N:t.led= !fH w)(v:t.plain=true)
  (q1: ∀x j,Vb w D ep es t sl i=some (x,j)-> ∀h',IG h' it (rawInt  j ) (i+1) es.size ep D->Heap.SameBut it s.heap h'->Q (some x) {s with heap:=h'})
  (q0:Vb w D ep es t sl i=none-> ∀h',Heap.ExtBut it s.heap h'->Q none {s with heap:=h'}):wpAny ↑3 A (pyNext (.ref it)) Q E s:=by
 have k:s.TypeIs (.ref it) "set_iterator":=(Z0 _ c rfl)
 refine K.elim λo O=>O.e λB M C y=>?_;have I: ∀{A:Around}{E:VP}{β:Type}{f:Bool->Sem β}{H:β->ř->Prop},wpAny ↑3 A (f (fH w)) H E s->wpAny ↑3 A (setsByText >>= f) H E s:=λh=>wB (wB (Ķ (wP h)))
 have J: ∀{A:Around}{E:VP}{Q:Option (Ś×Nat)->ř->Prop},Q (Vb w D ep es t sl i) s->wpAny ↑3 A (setNext D sl i ep) Q E s:=λq=>by
  unfold Vb at q;unfold setNext;refine wB (Ċ B C y (I ?_))
  cases u:fH w with
  |true=>
   rw[iP u]at q;dsimp only;rw[iP rfl,iN0 (by simp)];unfold setWalk;refine wB (wB (Ċ B C y (I ?_)));rw[u];exact wB (Ķ (wP (wP q)))
  |false=>
   rw[iN0 (by rw[u];exact xF0)]at q;dsimp only;rw[iN0 xF0];show wpAny _ _ (if(!t.plain&&_)=true then _ else(if(!t.led&&_)=true then unsupported "set:maker-not-led" else pure ()) >>= _) _ _ _;rw[v,N,u,iN0 (by exact xF0),iN0 (by exact xF0)];exact wB (wP (wP q))
 unfold pyNext
 refine wB (wpAny_attempt (ď k F.slot_seti_next
  (õ F.slot_seti_next k F.entry_seti_next ?_ (F.args_seti_next _))))
 unfold Builtin.«set_iterator.__next__» slotArgs;rw[21];refine wB (wpAny_fieldsOf c rfl ?_);dsimp only;refine wB (Ō B C y ?_);(rw[iN0 (by simp)]);dsimp only[rawInt];rw[Ē,Ē,Ē];refine wB (J ?_)
 cases G:Vb w D ep es t sl i with
 |none=>
  refine wB (ħ c rfl (by simp) ?_);(show wpAny _ _ _ _ _ _);refine wB ?_;simp only[newExc,newTuple];refine wB (Ą ?_ (by size_fits));refine wB (m:=firstArgMember _ _) (wpAny_of_eq (a:=Value.none) (by first |rfl|(simp only[firstArgMember];rfl)) ?_);refine Ą ?_ (by size_fits);simp only[raiseNew];refine wB (wpAny_handled ?_);rw[show A.in1.handled=none from L];refine wB (wP (wpAny_throw ?_));refine wB (ģ (T:="StopIteration") (b:=true) (Z0 _ (ã _ rfl) rfl) isSubtype_stop ?_);exact wP (q0 G _ (((ć ..).extBut.push _).push _))
 |some p=>
  refine wB (ħ c rfl (by simp) ?_);refine wB (ħ (ö _ c rfl) rfl (by simp) ?_);exact wP (Z0 _ rfl (wP (q1 p.1 p.2 G _ (ö _ (ö _ c rfl) rfl) ((ć ..).trans (ć ..)))))
def Hg(w:World)(D a:Nat)(es:K0):Array (Int×Ś):=if fH w then pickOrder (w.params.setOrder D a) es else es
def VJ:(Hg w D ep es).toList.Perm es.toList:=by
 unfold Hg;split
 .exact vS _ _
 .exact .refl _
theorem N8(hh:(A.handled=none))(hDI:D≠I)(hl:t.led= !fH w)(hpl:t.plain=true)(hu:Up6 t.place)(hf:t.fits es.size=true):
  Walks prog w A I [I,D] [I] es.size (λi v=> ∃e,(Hg w D ep es)[i]? =some e/\v=e.2) (λi h=>(∃sl:Nat,IG h I (rawInt  sl ) i es.size ep D/\(fH w=true\/SetTable.below t.place sl=i))/\SetAt h D es ep t) where
 sub:=λb hb=>by simp at hb;simp[hb]
 frame:=λi h h' ⟨⟨sl,h1,h2⟩,h3⟩ hk=>⟨⟨sl,hk I (by simp) _ h1,h2⟩,h3.keep λo e=>hk D (by simp) o e⟩
 item:=λi s Q E hi ⟨⟨sl,hit,hp⟩,hS⟩ hQ=>by
  have hz:=CA hf
  have hx: ∃e j,(Hg w D ep es)[i]? =some e/\Vb w D ep es t sl i=some (e.2,j)/\(fH w=true\/SetTable.below t.place j=i+1):=by
   unfold Hg Vb
   cases hb:fH w with
   |true=>
    have hs:i<(pickOrder (w.params.setOrder D ep) es).size:=by rw[<-á,(vS _ es).length_eq,á];exact hi
    exact ZC _ sl (ó hs) (by rw[iP rfl,ó hs];rfl) (.inl rfl)
   |false=>
    have hp:=hp.resolve_left (by rw[hb];exact xF0);have hi2:i<t.place.size:=by lia
    refine ZC (es[i]) (t.place[i]+1) (ó hi) ?_ (.inr (VH hu hi2));rw[hp,ó hi,ó hi2];rfl
  refine hx.b λe j h1 h2 h3=>?_;refine OM hh hit hS hl hpl (λx j' hn h' hit' hs=>?_) λhn=>by rw[h2]at hn;cases hn
  rw[h2]at hn;cases hn;exact hQ _ h' s.toks (Z0 e h1 rfl) ⟨(Z0 j hit' h3),hS.keep λo e=>hs.extBut D o hDI e⟩ λb o hb e=>hs.extBut b o (λz=>hb (by simp[z])) e
 done:=λs Q E ⟨⟨sl,hit,hp⟩,hS⟩ hQ=>by
  have hz:=CA hf
  have hx:Vb w D ep es t sl es.size=none:=by
   unfold Vb
   cases hb:fH w with
   |true=>rw[iP rfl,Array.getElem?_eq_none (by rw[<-á,(vS _ es).length_eq,á];exact à _)];rfl
   |false=>rw[hp.resolve_left (by rw[hb];exact xF0),Array.getElem?_eq_none (à _)];rfl
  exact OM hh hit hS hl hpl (λx j hn=>by rw[hx]at hn;cases hn) λ_ h' he=>hQ h' s.toks λb o hb e=>he b o (λz=>hb (by simp[z])) e
 self:=λi s Q E ⟨⟨sl,hit,_⟩,_⟩ hQ=>Ha hit hQ
def O1(K:(A.handled=none))(q:SetAt s.heap D es ep t)(N:t.led= !fH w)(c:t.plain=true)(y:Up6 t.place)(H:S≠D)(B:S<↑0):
  zBZ prog w A D s S es.size (λj=>j.toList.Perm (es.toList.map (·.2))):=by
 intro E Q M;have I:D<s.heap.objs.size:=by refine q.a λo a _=>?_;exact â a
 have G:=q;refine G.elim λo T=>T.e λa C u m=>?_;have J:s.TypeIs (.ref D) "set":=⟨o,a,C.1⟩
 refine wpAny_pyIter_slot J F.slot_set_iter (õ F.slot_set_iter J F.entry_set_iter' ?_ (F.args_set_iter_1 _));refine wB (wB (wP ?_));refine wP ?_;refine wB ?_;refine wB (Ō a u m (wP ?_));refine wB (wB (Ċ a u m ?_));refine wB (wB (Ķ (wP ?_)));refine wP ?_;show wpAny _ _ (if(!fH w&&(!t.plain&&_))=true then _ else _) _ _ _;rw[c,iN0 (by cases fH w<;>exact xF0)];rw[21];refine wB (wpAny_setEpoch_of a u m ?_);refine wB (Ą ?_ (by size_fits));refine wP ⟨_,rfl,"set_iterator",_,(Z0 _ (ã _ rfl) rfl),F.slot_seti_next.lookup,M _ s.drawn _ _ _ _ _ (N8 K (ä I) N c y m) ⟨(Z0 0 (ã _ rfl) (.inr ((by
   have:=(vT y 0).2.1 0;have:=(vT y 0).1
   grind)))),q.keep λo e=>hP0 _ e⟩ ?_ ?_ (λb o e=>hP0 _ e) λj k=>?_⟩
 .simp only[mC,nM,or_false,not_or];exact⟨ä B,H⟩
 .intro b P;rw[mS.mp P];exact à _
 .show j.toList.Perm _;rw[M6 (l:=(Hg w D ep es).toList.map (·.2)) k (by rw[lM0,VJ.length_eq,á]) λi v ⟨e,O,L⟩=>by rw[î,ø,O,L];rfl];exact VJ.map _
end
section
theorem Hh{R:List Ś->ř->Prop}(P:(A.handled=none))(N:SetAt s.heap D es ep t)(S:t.led= !fH w)(G:t.plain=true)(Q:Up6 t.place)(hz:es.size<4096)
  (h: ∀ h'  tk  d' (v:B0),↑7->v.toList.Perm (es.toList.map (·.2))->R v.toList {s with heap:=h',toks:=tk,drawn:=d'}):
  wpAny ↑3 A (collect (.ref D)) R E s:=by
 have C:D<s.heap.objs.size:=by refine N.a λo L _=>?_;exact â L
 have B:=N.keep (h':=s.heap.push {cls:=.type "list",data:=.seq ([]:A0).toArray}) λo e=>hP0 _ e;have O:Shared.TypeIs {s with heap:=s.heap.push {cls:=.type "list",data:=.seq ([]:A0).toArray}} (.ref D) "set":=by refine B.c λo L J _=>?_;exact Z0 o L J.1
 unfold collect;refine wB (wpAny_runValue (đ entry_proto_collect' ?_));rw[Č PySem.F.plain_proto_collect _];show wpAny _ A.in1 _ _ _ s;refine wB (Ą ?_);refine wP ⟨ī PySem.F.plain_list_iadd _,đ entry_list_iadd' ?_⟩;rw[Č PySem.F.plain_list_iadd _];have k:(s.heap.push {cls:=.type "list",data:=.seq ([]:A0).toArray}).get? ↑0=some {cls:=.type "list",data:=.seq #[]}:=ã _ rfl;show wpAny _ A.in1 _ _ _ _
 have I:=YO
  (R:=λ(q:Result) (K:ř)=> ∃(h':Heap)(tk:Nat)(d':Drawn)(a:B0)(m:Nat),q=.ok _/\K={s with heap:=h',toks:=tk,drawn:=d'}/\
   ↑7/\h'.get? ↑0=some {cls:=.type "list",dict:=none,data:=.seq a m,slots:=#[]}/\a.toList.Perm _)
  (O1 (prog:=prog) (A:=A.in1) P B S G Q (Ĕ C) (by show ↑0<(s.heap.push _).objs.size;rw[Ĝ];exact ę _)) O (Ĕ C) (.ref ↑0) 0 k (by rw[ý];lia)
  (λh' tk d' a m u j c=>(Zp h' tk d' a m ⟨rfl,rfl,(λb o e=>u b o (ä (â e)) (hP0 _ e)),j,c⟩))
 refine ċ I (λH K x=>?_) λe K x=>?_
 .cases H with
  |done f=>
   refine x.m λh' tk d' a m T=>T.h λe W u j c=>?_;subst W;cases e;show wpAny _ A _ _ _ _;refine wB (wpAny_load j ?_);exact wP (h h' tk d' a u c)
  |again c₁=>
   refine⟨x.1,İ x.2 λq M y=>?_⟩;refine y.m λh' tk d' a m U=>U.h λY Z u j c=>?_;subst Y;subst Z;show wpAny _ A _ _ _ _;refine wB (wpAny_load j ?_);exact wP (h h' tk d' a u c)
 .refine x.m λh' tk d' a m V=>V.elim λe _=>?_;cases e
end
def O2{es:List (Int×Ś)}(h: ∀e∈es,Uy e):IntsAre (es.map (·.2)) (es.map (·.1)):=by
 induction es with
 |nil=>exact .nil
 |cons e es ih=>
  refine(h e (.head _)).d λn t _ b=>?_;subst b;exact .cons _ t (ih λu a=>h u (.tail _ a))
def Vc(p:vs.Perm us): ∀{zs},IntsAre us zs-> ∃j,IntsAre vs j/\j.Perm zs:=by
 induction p with
 |nil=>exact λh=>⟨_,h,.refl _⟩
 |cons v _ ih=>
  intro zs h
  cases h with
  |cons z t h=>
   refine(ih h).a λj a b=>?_;exact Z0 (z::j) (.cons z t a) (b.cons z)
 |swap v u l=>
  intro zs h
  cases h with
  |cons z t h=>
   cases h with
   |cons y t' h=>exact⟨_,.cons y t' (.cons z t h),.swap _ _ _⟩
 |trans _ _ ih1 ih2=>
  intro zs h;refine(ih2 h).a λj a b=>?_;refine(ih1 a).a λxs c d=>?_;exact Z0 xs c (d.trans b)
section
def QY(N:(A.handled=none))(L:SetZ6 s.heap D M (!fH w))
  (h: ∀(h':Heap) tk  d'  out  j ,↑7->IntsAre out.toList j->j.Perm M->j.Pairwise (· <=·)-> ∀vs:List Ś,Q (.ref (h'.objs.size)) {s with heap:=sortedHeap (h'.push (seqObj "list" (vs.toArray) 0)) (h'.objs.size) vs out,toks:=tk,drawn:=d'}):
  wpAny ↑3 A (call (.builtin "sorted") [.ref D]) Q E s:=by
 refine L.q λo es X t S y H I _ F=>?_;have J:=F.fits;refine F.t λq u O _ _ W B _=>?_;refine Calls.call_function_entry kind_sorted plain_sorted entry_sorted (args_sorted1 _) ?_;rw[21];refine wB (Hh (A:=A.in1) N ⟨o,S,y,H,J⟩ q u O (by lia) λh' tk d' c P a=>?_);have k:c.toList.length=es.size:=by rw[a.length_eq,lM0,á]
 refine wB (wpAny_newList ?_ (by rw[ý];lia));have m:(h'.push (seqObj "list" c.toList.toArray 0)).get? (h'.objs.size)=some _:=ã _ rfl;refine(Vc a (O2 B)).a λzs G v=>?_;have C:=v.trans I;refine wB (û (õ slot_list_sort (Z0 _ m rfl) entry_list_sort (list_sort_tree m G (by rw[k];lia) λout j K T U=>(Z0 _ rfl ?_)) (args_list_sort _)));exact wP (Z0 _ rfl (h h' tk d' out j P K (T.trans C) U c.toList))
end
section
variable{W:XW}{e:Expr}{p1 p2 pos1 pos2:Pos}
def KQ(w:World)(l:Addr)(M:Za):HO:=.ext λh=>SetZ6 h l M (!fH w)
theorem ON: ∀{k}{j},Vals (k.map V.int) j->IntsAre j k
 |[],j,r=>by cases r;exact .nil
 |y::k,j,r=>by
  cases r with
  |cons r1 r2=>
   obtain⟨t,rfl⟩:=r1;exact .cons y t (ON r2)
def tZ:CallR X (.type "set") (λxs H Q=> ∃a k j,xs=[.ref a]/\Po k X.K H a (j.map V.int)/\(j.length)<=16/\(∀z∈j,0<=z/\z<16)/\X.calm=true/\ ∀l,H l=none->Q (.ref l) (yV H l (KQ X.w l (yO j)))):=by
 intro pins s σ H xs F Q I r h;refine h.i λa k j L=>L.g λM v D m C q=>?_;subst M;refine(vals1 r).a λu N A=>?_;subst N;subst A
 obtain⟨b,c,p⟩: ∃b,Vals _ b/\(s.heap.IsList a b.toArray\/s.heap.IsTuple a b.toArray):=by
  cases k with
  |true=>obtain⟨b,c,p,_⟩:=I.list v;exact⟨b,c,.inl p.isList⟩
  |false=>obtain⟨b,c,p,_⟩:=I.tuple v;exact⟨b,c,.inr p⟩
 refine KP (I.ok.hd C) p (ON c) D m λh' tk hs y=>?_;refine ZC (.ref ↑0) _ (I.laid (o:=KQ X.w ↑0 _) y (à _) ⟨hs,?_,λJ G z B=>z.move B⟩) rfl (q _ (I.hok.fresh (à _)));refine hs.r λo _ _ _ E _=>?_;exact⟨o,E⟩
def YS:CallR X (.builtin "sorted") (λxs H Q=> ∃l M,xs=[.ref l]/\H l=some (KQ X.w l M)/\X.calm=true/\ ∀p,H p=none->Q (.ref p) (yV H p (.lst ((PySem.W.sortI M).map V.int)))):=by
 intro pins s σ H xs v Q I r h;refine h.k λl M K F D q=>?_;subst K;refine(vals1 r).a λu L m=>?_;subst L;subst m;obtain⟨hs,_⟩:=(I.hok l _ F)
 refine QY (I.ok.hd D) hs λh' tk C out A E B j k v=>?_;have G:=PySem.W.eq_sortI j k;subst G;have I1:Inv X pins σ H {s with heap:=h',toks:=tk,drawn:=C}:=I.keptD E;obtain⟨e,y⟩:=sortedHeap_at (ã _ rfl);refine ZC (.ref (h'.objs.size)) _ (I1.laid (λb o a=>?_) (à _) (show ObjOk X.prog X.w _ _ _ (.lst _)from⟨?_,out.toList,e,eT B,?_⟩)) rfl (q _ (I1.hok.fresh (à _)))
 .have c:=â a;refine qq (sortedHeap_old (ä c) (by rw[size_push'];exact Nat.lt_succ_of_lt c)) ?_;exact hP0 _ a
 .have J:=j.length_eq;have:=ý;have:=hs.len;rw[lM0];lia
 .rw[Ł];exact y
def KR(rs:List Er)(S:Sto):R Er:=match rs with
 |[r]=>match srcOf S r with
  |some q=>match intsOf q.ds with
   |some ys=>if ys.length<=16/\ ∀z∈ys,0<=z/\z<16 then .ok (.new ((PySem.W.sortI (yO ys)).map MV.int)) S else .no
   |none=>.no
  |none=>.no
 |_=>.no
theorem OO{K:O0}: ∀j:List Int,DenL K α H (j.map MV.int) (j.map V.int)
 |[]=>yA
 |y::j=>zV (yQ y) (OO j)
def Vd(w:X.calm=true)(O:Gl X "sorted")(J:X.mg "sorted"=none)(c:Gl X "set")(b:X.mg "set"=none)(m:GY X W [e] af)
  (he:starEach [e] X.env=(false,eval e X.env)::starEach [] X.env:=by rfl) (hpl:(backTo pos2 (starEach [] X.env)).any (·.1)=false:=by rfl)
  (he1:starEach [.Call (.Name "set" p2) [e] [] pos2] X.env=(false,eval (.Call (.Name "set" p2) [e] [] pos2) X.env)::starEach [] X.env:=by rfl) (hpl1:(backTo pos1 (starEach [] X.env)).any (·.1)=false:=by rfl):
  zP X W (.Call (.Name "sorted" p1) [.Call (.Name "set" p2) [e] [] pos2] [] pos1) (λj S=>(af j S).bind KR):=by
 refine m.a λt m k=>?_;refine Z0 _ (tL YS O J rF (aY (pR tZ c b YH m ↑4 ↑4 he hpl) BO he1) ↑4 ↑4 he1 hpl1) (λα j S σ H Q M sl q=>k α j S σ H _ M sl (q.bind λY rs Z E H1 y C o K a=>?_))
 replace a:=a.shift C
 unfold KR at a;split at a
 .rename_i r;split at a
  .rename_i q y;split at a
   .rename_i v I;split at a
    .rename_i A;refine(JL K).a λu V D=>?_;subst V;refine(Lk o y D).b λG U ac P L=>?_;subst ac;refine(L.get _ _ _ P).a λT s N=>?_;rw[FK I N]at s;exact Zv G q.k v ⟨rfl,s,A.1,A.2,w,(λl B=>(Zr l (yO v) rfl zO w (λp F=>Post.newl (a.shift (o.newx B)) (o.new B) F (OO _))))⟩
    .exact a.elim
   .exact a.elim
  .exact a.elim
 .exact a.elim
end
section
variable{O:Za}
abbrev LZ6(prog:Program)(w:World)(h:Heap)(a:Addr)(L:Za):Prop:=h.SetOf (intKind prog w) a (λk=>decide (k∈L)) L.length
def By{h:Heap}(b:h.SetOf (intKind prog w) a S n)(e: ∀k,S k=S' k)(c:n=n'):h.SetOf (intKind prog w) a S' n':=by rw[<-funext e, <-c];exact b
theorem O3{J:List Int->Heap->Prop}{g:List Int->Int->List Int}
  (step: ∀(n:Nat) tk  j  k  Q ,n<16->J j k.heap->(∀h',Heap.SameBut r k.heap h'->J (g j n) h'->Q (.yield ⟨⟩) {k with heap:=h'})->wpAny ↑3 A (f ( n ,.int n tk) ⟨⟩) Q E k):
  ∀(l:List (Int×Ś)),(∀e∈l,Uy e)-> ∀ j  k  Q ,J j k.heap->(∀h',Heap.SameBut r k.heap h'->J ((l.map (·.1)).foldl g j) h'->Q ⟨⟩ {k with heap:=h'})->wpAny ↑3 A (forIn l PUnit.unit f) Q E k
 |[],_,j,k,Q,hj,q=>by exact wP (q k.heap (Ğ _ _) hj)
 |e::l,hs,j,k,Q,hj,q=>by refine(hs e (.head _)).d λn tk u v=>?_;subst v;rw[forIn_cons];exact wB (step n tk j k _ u hj λh' m a=>O3 step l (λe s=>hs e (.tail _ s)) _ _ Q a λo c b=>q o (m.trans c) b)
def Nk{os:B9}(c:s.heap.get? a=some oa)(m:oa.data=.set es ep t)(b:Tb6 (!fH w) es t)
  (q: ∀j,j.toList.Perm es.toList->Q j s):wpAny ↑3 A (setWalkUnseen a os fl) Q E s:=by
 have o: ∀{β:Type}{f:Bool->Sem β}{k:β->ř->Prop},wpAny _ A (f (fH w)) k E s->wpAny ↑3 A (setsByText >>= f) k E s:=λh=>wB (wB (Ķ (wP h)));unfold setWalkUnseen setWalk;refine wB (Ċ c m b.fits (o ?_));dsimp only;refine qq b.1 (qq b.2.1 (qq (iP (by cases fH w<;>rfl)) ?_));refine wB (Ċ c m b.fits (o ?_))
 cases u:fH w with
 |true=>
  exact wB (Ķ (wP (q _ (vS _ _))))
 |false=>
  show wpAny _ _ (if(!t.plain&&_)=true then _ else(if _=true then unsupported "set:maker-not-led" else pure ()) >>= _) _ _ _;refine qq b.1 (qq b.2.1 (qq u ?_));exact wB (wP (wP (q _ (.refl _))))
def Hi{l:Za}:l.foldl (λj k=>if k∈O then j else cA j k) j=(l.filter λk=>!O.contains k).foldl cA j:=by
 induction l generalizing j with
 |nil=>rfl
 |cons k l ih=>by_cases c:k∈O<;>simp[c,ih]
def YT{l:Za}: ∀{M},M.Nodup->l.foldl List.erase M=M.filter λk=>!l.contains k:=by
 induction l with
 |nil=>intro M _;exact(Ŗ.mpr λ_ _=>rfl).symm
 |cons k l ih=>
  intro M h;rw[ĕ,ih (h.erase k),h.erase_eq_filter,filter_filter];refine ŕ λx _=>?_;by_cases c:x=k<;>simp[c]
theorem O4(c:s.heap.get? r=some (xE b))(G:4<=n)(D:n<=16)
  (q: ∀h' y t,Heap.SameBut r s.heap h'->h'.get? r=some {cls:=.type "set",dict:=none,data:=.set #[] y t}->t.place=#[]->t.dummies=#[]->(t.mask=7/\n=4\/15<=t.mask/\5<=n)->n<=t.mask->Q () {s with heap:=h'}):
  wpAny ↑3 A (setRoomFor r n) Q E s:=by
 unfold setRoomFor;refine wB (Ċ c rfl rfl ?_);have k:(SetTable.fresh 0 0 b).roomFor n=if 5<=n then some ((0+n) * 2)else none:=by unfold SetTable.roomFor;exact ite_congr (propext (by show(0+n) * 5>=7 * 3↔_;lia)) (λ_=>rfl) λ_=>rfl
 dsimp only;rw[k];by_cases j:5<=n
 .refine((show∀n:Nat,n<17->5<=n->15<=SetTable.sizeAbove ((0+n) * 2) - 1/\SetTable.sizeAbove ((0+n) * 2)<=64/\n<=SetTable.sizeAbove ((0+n) * 2) - 1 by decide+kernel) n #[0] j).f λp1 p2 p3=>?_;rw[iP j];unfold setRelay;refine wB (Ċ c rfl rfl ?_);dsimp only;rw[iN0 (by rw[ý];lia)];obtain⟨a,o,C,J,K,H,B,F,m,I⟩:=KO (es:=#[]) p1 (by simp) (by simp) 0 _ b true;have u:o=#[]:=by simpa using F
  have v:a.place=#[]:=by rw[u]at m;simpa using m
  rw[show SetTable.relaid (SetTable.fresh 0 0 b) _ _=some _ from C,u];refine wB (wP (wpAny_storeSet_of c rfl ?_ (by simp)));have g:=ö (Obj.putSet #[] a) c (by rw[putSet_of #[] a rfl];rfl);rw[putSet_of #[] a rfl]at g;exact q _ _ a (ć ..) g v B (.inr ⟨by lia,j⟩) #[0]
 .rw[iN0 j];exact wP (q s.heap _ _ (Ğ _ _) c rfl rfl (.inl ⟨rfl,by lia⟩) (by show n<=7;lia))
theorem O5(hS:(SetZ6 s.heap a M (!fH w)))(h4:4<=M.length)
  (q: ∀h' es U t,(∀b u,s.heap.get? b=some u->h'.get? b=some u)->h'.get? ↑0=some {cls:=.type "set",dict:=none,data:=.set es U t}->(es.toList.map (·.1)).Perm M->(∀e∈es.toList,Uy e)->t.fits es.size=true->t.dummies=#[]->Q (.ref ↑0) {s with heap:=h'}):
  wpAny ↑3 A (Builtin.Frozenset.copyOf a) Q E s:=by
 refine hS.q λT es U t L F hd K Y k=>?_;have hT:s.TypeIs (.ref a) "set":=(Z0 T L F.1)
 have hz:=K.length_eq;rw[lM0,á]at hz;unfold Builtin.Frozenset.copyOf Builtin.Frozenset.baseOf newSet;refine wB (wB (ģ hT (b:=true) (by rw[ń];kernel_rfl) (wP ?_)));refine wB (wB (wB (Ķ (wP ?_))));dsimp only;simp only[newObj];refine wB (wpAny_alloc (wP ?_));rw[21];have hr:(s.heap.push (xE (!fH w))).get? ↑0=some (xE (!fH w)):=ã _ rfl;have ne:↑0≠a:=λz=>ĝ _ (z▸â L);have I:(s.heap.push (xE (!fH w))).get? a=some T:=hP0 _ L;unfold setMerge;dsimp only;rw[iN0 (by simpa using ne)];refine wB (wB (Ċ I hd k.fits ?_));dsimp only;rw[iN0 (λz=>by have:=Array.isEmpty_iff_size_eq_zero.mp z;lia)];refine wB (O4 hr #[0] k.2.2.2.2.2.1 λh' C v X D S P g4 Z=>?_);refine wB (Ċ D rfl (by simp[SetTable.fits,SetTable.fill,S,P]) ?_);have kp: ∀G,Heap.SameBut ↑0 h' G-> ∀b u,s.heap.get? b=some u->G.get? b=some u:=λG H b u e=>by have:=ä (â e);rw[H.2 b this,X.2 b this];exact hP0 _ e
 have B: ∀(j:K0)(m:SetTable),j.toList.Perm es.toList->m.fits j.size=true->m.dummies=#[]->wpAny ↑3 A (storeSet ↑0 j m) (λ_ s'=>wpAny ↑3 A _ Q E s') E {s with heap:=h'}:=λj m p f d=>by have z:=p.length_eq;rw[á,á]at z;refine wpAny_storeSet_of D rfl (wP (q _ j (C+1) m (kp _ (ć ..)) ?_ ((p.map _).trans K) (λe he=>k.2.2.2.2.2.2.1 e (p.mem_iff.mp he)) f d)) (by rw[ý];have:=k.2.2.2.2.2.1;lia);have g:=ö (Obj.putSet j m) D (by rw[putSet_of j m rfl];rfl);rw[putSet_of j m rfl]at g;exact g
 unfold SetTable.road;dsimp only;rw[iN0 (by simp[SetTable.fill,S,P])];by_cases c:v.mask=t.mask
 .rw[iP (by simp[c,k.2.2.2.1])];exact B es _ (.refl _) k.fits k.2.2.2.1
 .rw[iN0 (by simp[c])]
  have J:15<=v.mask:=by
   rcases g4 with⟨x,y⟩|⟨x,_⟩
   .rcases k.2.2.2.2.2.2.2 with⟨z,_⟩|⟨z,z2,_⟩<;>lia
   .exact x
  obtain⟨N,o,l1,l2,l3,l4,W,l6,l7,l8⟩:=KO J k.2.2.2.2.2.2.1 (K.nodup_iff.mpr Y) v.finger v.moves (v.led&&t.led) _;have O:(o.filterMap (es[·]?)).toList.Perm es.toList:=by rw[Array.toList_filterMap];refine(l6.filterMap _).trans ?_;rw[filterMap_getElem?_range]
  have z:=O.length_eq;rw[á,á]at z;dsimp only;rw[l1];refine wB (show wpAny _ _ (if(_ !=_)=true then _ else pure (_,N)) _ _ _ from ?_);rw[iN0 (by simp[z])];refine wP (B _ N O ?_ W);have:=congrArg List.length l7;rw[lM0,á,á]at this;simp only[SetTable.fits,SetTable.fill,this,W,l2,aE,ŉ,true_and,é];exact ì (le_of_eq z) Z
def zCH(r:Addr)(N mk:Nat)(a:Za)(h:Heap):Prop:= ∃u es b t,h.get? r=some u/\u.ExactSet/\u.data=.set es b t/\(∀e∈es.toList,Uy e)/\(es.toList.map (·.1)).Perm a/\a.Nodup/\t.fits es.size=true/\t.mask=mk/\t.dummies.size+es.size=N
theorem O6{mk n:Nat}(hJ:zCH r N mk acc s.heap)(Z:N<=16)(hn:n<16)(q: ∀c h',Heap.SameBut r s.heap h'->zCH r N mk (acc.erase n) h'->Q c {s with heap:=h'}):
  wpAny ↑3 A (setDiscardHashed r (.int n tk) (hashInt n)) Q E s:=by
 have G:=hJ;refine hJ.p λu es ep t V=>V.s λC F k a M P o W hs=>?_;have v:=II (prog:=prog) (w:=w) a;have m:(intKind prog w).is n (.int n tk)=true:=by simp[intKind,Value.isInt]
 unfold setDiscardHashed setFind setFindIn;refine wB (wB (Ċ C k o ?_));dsimp only;rw[byScan_of rfl (by unfold scanBound;lia) v,iP rfl];refine wB (ĩ ?_);refine wB (wpAny_setScan_of m C k o v ?_)
 cases L:List.findIdx? (λe=>(intKind prog w).is n e.2) es.toList with
 |none=>
  have T:(n:Int)∉acc:=λy=>by refine((VI a).mp (M.mem_iff.mpr y)).a λe D q=>?_;have:=List.findIdx?_eq_none_iff.mp L e D;rw[show(intKind prog w).is n e.2=true from q]at this;cases this
  exact wP (wP (q _ s.heap (Ğ _ _) (by rw[List.erase_of_not_mem T];exact G)))
 |some j=>
  obtain⟨I,B,_⟩:=List.findIdx?_eq_some_iff_getElem.mp L;have O:j<es.size:=by simpa using I
  have hp:=CA o;have H:j<t.place.size:=by lia
  have X:(es.toList[j]).1=(n:Int):=by refine(a es.toList[j] (Ĩ I)).d λy tk _ e=>?_;rw[e]at B ⊢;simpa [intKind,Value.isInt]using B
  have S:((SetTable.eraseAt es j).toList.map (·.1)).Perm (acc.erase n):=by
   have K:=(BW es.toList j I).map Prod.fst;rw[í,X]at K;have U:=(List.cons_perm_iff_perm_erase.mp (K.trans M)).2;have Y:(SetTable.eraseAt es j).toList=es.toList.eraseIdx j:=by rw[List.eraseIdx_eq_take_drop_succ];simp[SetTable.eraseAt];exact Ŕ (by simp)
   rw[Y];exact U
  have z1:(SetTable.eraseAt es j).size+1=es.size:=by simp[SetTable.eraseAt];lia
  have z2:(SetTable.eraseAt t.place j).size+1=t.place.size:=by simp[SetTable.eraseAt];lia
  have b:t.drop j={t with place:=SetTable.eraseAt t.place j,dummies:=SetTable.insertAt t.dummies (SetTable.below t.dummies t.place[j]) t.place[j]}:=by unfold SetTable.drop;rw[ó H]
  have J:(SetTable.insertAt t.dummies (SetTable.below t.dummies t.place[j]) t.place[j]).size=t.dummies.size+1:=by rw[<-á,(SetTable.insertAt_perm ..).length_eq];simp
  dsimp only;refine wP ?_;rw[Ĳ];refine wB (Ċ C k o ?_);refine wB (wpAny_storeSet_of C k (wB (wpAny_point (wP (q true _ (ć ..) ?_)))) (by rw[ý];lia));have g:=ö (Obj.putSet (SetTable.eraseAt es j) (t.drop j)) C (by rw[putSet_of _ _ k];rfl);rw[putSet_of _ _ k]at g;refine Zw _ _ _ _ ⟨g,F,rfl,(λe D=>a e ?_),S,P.erase _,?_,?_,?_⟩
  .simp only[SetTable.eraseAt,Array.toList_append,ç,Array.toList_extract]at D;exact D.elim (λz=>mem_of_mem_drop (ĳ z)) λz=>mem_of_mem_drop (ĳ z)
  .rw[b];simp only[SetTable.fits,SetTable.fill,aE,Ħ,é,J]at o ⊢
   lia
  .rw[b];exact W
  .rw[b];dsimp only;rw[J]
   lia
theorem LZ6.of{mk:Nat}(x:zCH r N mk acc h)(s:N<=16):LZ6 prog w h r acc:=by refine x.p λu es m t y=>y.s λq b o a c v j _ hs=>?_;have e:=c.length_eq;rw[lM0,á]at e;exact Zw u es m t ⟨q,b,o,II a,(λk=>by rw[é, <-c.mem_iff,VI a];rfl),(by unfold scanBound;lia),j,e⟩
def DS(h:s.TypeIs (.ref a) "set")(q:Q true s):wpAny ↑3 A (Builtin.Frozenset.isAnySet (.ref a)) Q E s:=by refine wB (ģ h (b:=true) (by rw[ń];kernel_rfl) ?_);exact wP q
noncomputable def nI(M O:Za):List Int:=M.filter λk=>!O.contains k
theorem O7{id:String}(hS:(SetZ6 s.heap a M (!fH w)))(hO:SetZ6 s.heap o O (!fH w))(ag:M.length / 4>O.length)
  (q: ∀h' L,(∀b u,s.heap.get? b=some u->h'.get? b=some u)->LZ6 prog w h' ↑0 L->L.length=(nI M O).length->Q (.ref ↑0) {s with heap:=h'}):
  wpAny ↑3 A (Builtin.Frozenset.copyOf a >>= λr=>Builtin.Frozenset.addrOf r >>= λx=>holding [r] (Builtin.Frozenset.differenceUpdate id x (.ref o)) >>= λ_=>pure r) Q E s:=by
 have hM:=hS.len;have B:M.Nodup:=by refine hS.q λ_ _ _ _ _ _ _ _ nd _=>?_;exact nd
 refine wB (O5 hS #[0] λD es ep t kp g K aa Z hd=>?_);rw[21];refine wB (û ?_);refine hO.q λoo eo N to ho S v G ab j=>?_;have m:=kp _ _ ho;have Y:Shared.TypeIs {s with heap:=D} (.ref o) "set":=⟨_,m,S.1⟩
 have ne:o≠s.heap.objs.size:=λz=>ĝ _ (z▸â ho);have zo:=G.length_eq;have ze:=K.length_eq;rw[lM0,á]at zo ze
 have af:es.size<=t.mask:=by
  simp only[SetTable.fits,SetTable.fill,aE,Ħ,é]at Z
  lia
 have hJ:zCH ↑0 M.length t.mask (es.toList.map (·.1)) D:=(Zw _ es ep t ⟨g,⟨rfl,rfl,rfl⟩,rfl,aa,.refl _,K.nodup_iff.mpr B,Z,rfl,(by rw[hd,ze];simp)⟩)
 unfold Builtin.Frozenset.differenceUpdate;rw[iN0 (by simpa using ne)];refine wB (DS Y ?_);rw[iP rfl];rw[21];unfold Builtin.Frozenset.sizeOf;refine wB (wB (Ō m v j.fits (wP ?_)));refine wB (wB (Ō g rfl Z (wP ?_)));rw[iN0 #[0]];refine wB (wpAny_setEpoch_of (s:={s with heap:=D}) m v j.fits ?_);refine wB (û ?_);refine wB (Nk (s:={s with heap:=D}) m v j λy p=>?_);rw[<-Array.forIn_toList];have ms: ∀k:Int,k∈y.toList.map (·.1)↔k∈O:=λk=>((p.map _).trans G).mem_iff;refine wB (O3 (r:=↑0) (J:=λF h=>zCH ↑0 M.length t.mask F h/\Heap.SameBut ↑0 D h) (g:=List.erase) (λn tk F s1 Q hn ⟨I,H⟩ q=>?_) y.toList (λe he=>j.2.2.2.2.2.2.1 e (p.mem_iff.mp he)) (es.toList.map (·.1)) {s with heap:=D} _ ⟨hJ,Ğ _ _⟩ λU _ ⟨I,H⟩=>wP ?_)
 .refine wB (û ?_);have:=O6 (prog:=prog) (w:=w) (A:=A) (E:=E) (s:=s1) (tk:=tk) I hM hn (Q:=λ_ s2=>wpAny ↑3 A (Builtin.Frozenset.unchanged id o N >>= λ_=>pure (.yield PUnit.unit)) Q E s2) λc h' C T=>?_
  .rw[DR hn]at this;exact this
  .unfold Builtin.Frozenset.unchanged;refine wB (wB (wpAny_setEpoch_of (by rw[C.2 o ne,H.2 o ne];exact m) v j.fits ?_));(rw[iN0 (by simp)]);exact wP (wP (q h' C ⟨T,H.trans C⟩))
 .unfold setTidy;have hL:=LZ6.of (prog:=prog) (w:=w) I hM;have ll:(y.toList.map (·.1)).foldl List.erase (es.toList.map (·.1))=(es.toList.map (·.1)).filter λk=>!O.contains k:=by rw[YT (K.nodup_iff.mpr B)];refine ŕ λx _=>?_;rw[Ĉ];simp[<-ms]
  have l2:=(K.filter λk=>!O.contains k).length_eq;have fr: ∀b u,s.heap.get? b=some u->U.get? b=some u:=λb u e=>by rw[H.2 b (ä (â e))];exact kp b u e
  refine I.p λu e2 ae t2 V=>V.s λhu _ P _ p2 _ X W ah=>?_;refine wB (Ċ (s:={s with heap:=U}) hu P X ?_);have l3:M.length<=(nI M O).length+O.length:=by rw[<-lA];exact B.length_le_of_subset λk hk=>by by_cases c:k∈O<;>simp[nI,hk,c]
  have l4:=p2.length_eq;rw[ll,l2,lM0,á]at l4;dsimp only;rw[iN0 (by unfold SetTable.tooManyDummies;rw[é,W];unfold nI at l3;lia)];exact wP (wP (q U _ fr hL (by rw[ll,l2];rfl)))
end
section
variable{s:ř}
def Nl(h:(SetZ6 s.heap a M (!fH w)))(q:Q M.length s):wpAny ↑3 A (Builtin.Frozenset.sizeOf a) Q E s:=by refine h.q λu es m t k _ j c _ b=>?_;have e:=c.length_eq;rw[lM0,á]at e;exact wB (Ō k j b.fits (wP (e▸q)))
def SetZ6.ty(h:(SetZ6 s.heap a M (!fH w))):s.TypeIs (.ref a) "set":=by refine h.p λu _ _ _ j=>j.f λc b _=>?_;exact Z0 u c b.1
theorem zCI{l:Za}(h:l.Nodup/\ ∀k∈l,0<=k/\k<16):(l.length)<=16:=
 ì (h.1.length_le_of_subset (l₂:=(List.range 16).map Int.ofNat) λk a=>by obtain⟨c,b⟩:=h.2 k a;exact mM0.mpr ⟨k.toNat,ú.mpr #[0],by simp;lia⟩) (by simp)
def O8{n:Nat}(a:n<16)(b:LZ6 prog w s.heap o O)(h: ∀r:Option Nat,r.isSome=decide ((n:Int)∈O)->Q r s):wpAny ↑3 A (setFind o (.int n tk) n) Q E s:=by have:=wpAny_setFind_of (A:=A) (E:=E) (x:=.int n tk) (by simp[intKind,Value.isInt]) rfl b h;rwa [show(intKind prog w).hash n=n from DR a]at this
theorem O9{n:Nat}(b:n<16)(j:LZ6 prog w s.heap r M)(m:M.length<4000)(h: ∀c h',Heap.SameBut r s.heap h'->LZ6 prog w h' r (cA M n)->Q c {s with heap:=h'}):wpAny ↑3 A (setAddHashed r (.int n tk) n) Q E s:=by
 have:=wpAny_setAddHashed_of (A:=A) (E:=E) (k:=(n:Int)) (x:=.int n tk) (by simp[intKind,Value.isInt]) rfl j (by unfold scanBound;lia) λh' a hs=>h _ h' a (By hs (λk=>?_) ?_)
 .rwa [show(intKind prog w).hash n=n from DR b]at this
 .unfold cA;by_cases c:(n:Int)∈M<;>by_cases d:k=n<;>simp[c,d]
 .unfold cA;by_cases c:(n:Int)∈M<;>simp[c]
theorem P2{id:String}(N:(SetZ6 s.heap a M (!fH w)))(F:SetZ6 s.heap o O (!fH w))
  (q: ∀h' L,(∀b u,s.heap.get? b=some u->h'.get? b=some u)->LZ6 prog w h' ↑0 L->L.length=(nI M O).length->Q (.ref ↑0) {s with heap:=h'}):
  wpAny ↑3 A (Builtin.Frozenset.difference id a (.ref o)) Q E s:=by
 unfold Builtin.Frozenset.difference;refine wB (DS F.ty ?_);rw[21];refine wB (Nl F ?_);refine wB (Nl N ?_);by_cases y:M.length / 4>O.length
 .rw[iP y];exact wB (ĩ (O7 N F y q))
 rw[iN0 y];refine wB ?_;refine wB (ģ N.ty (b:=true) (by rw[ń];kernel_rfl) ?_);refine wP ?_;refine wB (wpAny_newSet_of (knd:=intKind prog w) λv hr=>?_);rw[21];have W:=(F.move (h':=s.heap.push {cls:=.type "set",dict:=none,data:=.set #[] 0 (.fresh 0 0 v)}) λu e=>hP0 _ e).of (prog:=prog) (w:=w);refine N.q λoa es ep t Z aa T pm nd K=>?_;have B:(s.heap.push {cls:=.type "set",dict:=none,data:=.set #[] 0 (.fresh 0 0 v)}).get? a=some oa:=hP0 _ Z;have ne:a≠s.heap.objs.size:=λz=>ĝ _ (z▸â Z);have S:o≠s.heap.objs.size:=by refine F.r λ_ _ _ _ h _=>?_;exact λz=>ĝ _ (z▸â h)
 refine wB (wpAny_setEpoch_of B T K.fits ?_);refine wB (û ?_);refine wB ?_;rw[iP rfl];refine Nk B T K λD p=>?_;rw[<-Array.forIn_toList];have p1:(D.toList.map (·.1)).Perm M:=(p.map Prod.fst).trans pm;refine wB (O3 (r:=↑0) (J:=λj h=>LZ6 prog w h ↑0 j/\(j.Nodup/\ ∀k∈j,0<=k/\k<16)/\Heap.SameBut ↑0 (s.heap.push {cls:=.type "set",dict:=none,data:=.set #[] 0 (.fresh 0 0 v)}) h) (g:=λj k=>if k∈O then j else cA j k) (λn tk j G Q Y ⟨I,H,C⟩ q=>?_) D.toList (λe he=>K.2.2.2.2.2.2.1 e (p.mem_iff.mp he)) [] {s with heap:=_} _ ⟨By hr (λk=>by simp) rfl,by simp,Ğ _ _⟩ λh2 _ ⟨I,_,C⟩=>?_)
 .refine wB (û ?_);have X:LZ6 prog w G.heap o O:=by obtain⟨u,r⟩:=W;exact⟨u,by rw[C.2 o S];exact r⟩
  have un: ∀h',Heap.SameBut ↑0 G.heap h'->Q (.yield PUnit.unit) {G with heap:=h'}->wpAny ↑3 A (Builtin.Frozenset.unchanged id a ep) (λ_ s2=>wpAny ↑3 A (pure (ForInStep.yield PUnit.unit)) Q E s2) E {G with heap:=h'}:=λh' m q=>by unfold Builtin.Frozenset.unchanged;refine wB (wpAny_setEpoch_of (s:={G with heap:=h'}) (by rw[m.2 a ne,C.2 a ne];exact B) T K.fits ?_);(rw[iN0 (by simp)]);exact wP (wP q)
  rw[iP rfl];refine wB (O8 Y X λx hx=>wB (wP ?_));rw[hx];by_cases c:(n:Int)∈O
  .rw[iP c]at q;rw[dT0 c];exact wP (wB (un _ (Ğ _ _) (q _ (Ğ _ _) ⟨I,H,C⟩)))
  .rw[iN0 c]at q;rw[dF0 c];refine wB (O9 Y I (Ř (zCI H) ↑4) λ_ h' m U=>wP (wB (un h' m (q h' m ⟨U,⟨IH H.1,λk P=>?_⟩,C.trans m⟩))));unfold cA at P;split at P
   .exact H.2 k P
   .exact(mC.mp P).elim (λz=>by lia) (H.2 k)
 .rw[Hi]at I;refine wP (wP (q h2 _ (λb u e=>?_) I ?_))
  .rw[C.2 b (ä (â e))];exact hP0 _ e
  .obtain⟨o1,o2,_⟩:=qG _;exact((ĭ o1 (nd.filter _)).mpr λk=>(o2 k).trans (p1.filter _).mem_iff).length_eq
def KS:entryFor table "set.__sub__"=some Builtin.«frozenset.__sub__»:=entryFor_alias (id':="frozenset.__sub__") (by kernel_rfl) rfl ↑10 (by kernel_rfl)
def zCJ(c:(SetZ6 s.heap a M (!fH w)))(j:SetZ6 s.heap o O (!fH w))
  (q: ∀h' L,(∀b u,s.heap.get? b=some u->h'.get? b=some u)->LZ6 prog w h' ↑0 L->L.length=(nI M O).length->Q (.ref ↑0) {s with heap:=h'}):
  wpAny ↑3 A (binaryOp .Sub (.ref a) (.ref o)) Q E s:=by
 refine wpAny_binaryOp_same c.ty j.ty F.fills_set_sub F.slot_set_sub (õ F.slot_set_sub c.ty KS ?_ (F.args_set_sub_2 _ _));show wpAny _ _ (Builtin.Frozenset.slot1 "__sub__" _ >>= _) _ _ _;rw[21];refine wB (wB (DS c.ty (DS j.ty ?_)));rw[21];exact wB (P2 c j λh' L m k e=>wP (ZB _ rfl nofun (q h' L m k e)))
end
section
variable{p1 p2 p3 pos pos1 pos2 pos3:Pos}
noncomputable def Nn(P:ś)(w:World)(l:Addr)(n:Nat):HO:=.ext λh=> ∃L,L.length=n/\LZ6 P w h l L
def Ve:OpR X (binaryOp .Sub) λx y H Q=> ∃k j M O,x=.ref k/\y=.ref j/\H k=some (KQ X.w k M)/\H j=some (KQ X.w j O)/\
  ∀l,H l=none->Q (.ref l) (yV H l (Nn X.prog X.w l (nI M O).length)):=by
 intro pins s σ H x y v u Q I D B h;refine h.l λk j M O T U b a q=>?_;subst T;subst U;subst D;subst B;obtain⟨A,_⟩:=(I.hok k _ b)
 obtain⟨N,_⟩:=(I.hok j _ a)
 refine zCJ A N λh' L C c e=>?_;refine ZC (.ref ↑0) _ (I.laid (o:=Nn X.prog X.w ↑0 _) C (à _) ⟨(Z0 L e c),?_,λb a ⟨L,z,u,r⟩ F=>⟨L,z,u,by refine r.n λG P m K E=>?_;exact(Zc G P m (F _ K) E)⟩⟩) rfl (q _ (I.hok.fresh (à _)));refine c.r λu _ _ _ J _=>?_;exact⟨u,J⟩
def KU:List Er->Option (List Int)
 |[.val (.tup x)]=>(intsOf x).bind λj=>if j.length<=16/\ ∀z∈j,0<=z/\z<16 then some j else none
 |_=>none
def P4(a zs:Za)(S:Sto):R Er:=.ok (.val (.int ((nI (yO a) (yO zs)).length:Nat))) S
def zCK(c o:(Rho->Sto->R (List Er))):AX:=λa S=>(c a S).bind λq b=>(KU q).elim .no λj=>(o a b).bind λk m=>(KU k).elim .no λzs=>P4 j zs m
def Vf(hc:X.calm=true)(hg:Gl X "len")(hm:X.mg "len"=none)(F:Gl X "set")(D:X.mg "set"=none)(m:GY X W [k] f1)(y:GY X W [j] f2)
  (he1:starEach [k] X.env=(false,eval k X.env)::starEach [] X.env:=by rfl) (hp1:(backTo pos1 (starEach [] X.env)).any (·.1)=false:=by rfl)
  (he2:starEach [j] X.env=(false,eval j X.env)::starEach [] X.env:=by rfl) (hp2:(backTo pos2 (starEach [] X.env)).any (·.1)=false:=by rfl)
  (he:starEach [.BinOp (.Call (.Name "set" p1) [k] [] pos1) .Sub (.Call (.Name "set" p2) [j] [] pos2) pos3] X.env=(false,eval (.BinOp (.Call (.Name "set" p1) [k] [] pos1) .Sub (.Call (.Name "set" p2) [j] [] pos2) pos3) X.env)::starEach [] X.env:=by rfl)
  (hp:(backTo pos (starEach [] X.env)).any (·.1)=false:=by rfl):
  zP X W (.Call (.Name "len" p3) [.BinOp (.Call (.Name "set" p1) [k] [] pos1) .Sub (.Call (.Name "set" p2) [j] [] pos2) pos3] [] pos) (zCK f1 f2):=by
 refine m.a λt1 m k1=>?_;refine y.a λt2 y k2=>?_
 refine(Z0 _ (tL (show CallR X (.builtin "len") (λxs H Q=> ∃l n,xs=[.ref l]/\H l=some (Nn X.prog X.w l n)/\Q (.int  n ) H) by
   intro pins s σ H xs us Q I r h;refine h.b λl n ac B q=>?_;subst ac;refine(vals1 r).a λu al rx=>?_;subst al;subst rx;obtain⟨⟨L,rfl,o,es,ep,t,ho,N,hd,ae,aa,hb,hf,hz⟩,_⟩:=(I.hok l _ B)
   rw[<-hz]at q;have af:es.size<4096:=hb;exact call_len_set ho N hd hf #[0] (ZC (.int _) H (I.tok _) ⟨_,rfl⟩ q)) hg hm QK (aY (Xd Ve (pR tZ F D YH m ↑4 ↑4 he1 hp1) (pR tZ F D YH y ↑4 ↑4 he2 hp2)) BO he) ↑4 ↑4 he hp) (λα ρ S σ H Q wd sl q=>k1 α ρ S σ H _ wd sl (q.bind λvs r1 S1 O H1 k x1 G d1 A=>?_)))
 replace A:=A.shift x1
 have Z: ∀{r:List Er}{vs:List V}{α:B9}{H0 H:Hp}{S:Sto}{c:Za},KU r=some c->Wd X.g α S H->Dn.d X.g H0 α S H r vs-> ∃a,vs=[.ref a]/\Po false X.K H a (c.map V.int)/\(c.length<=16/\ ∀z∈c,0<=z/\z<16):=by
  intro r vs α H0 H S c h w d;unfold KU at h;split at h
  .rename_i x;refine(Option.bind_eq_some_iff.mp h).a λzs k j=>?_;split at j
   .rename_i hn;cases j;refine(JL d).a λu am du=>?_;subst am;refine(nF du).b λY us ap M l1=>?_;subst ap;rw[FK k l1]at M;exact ZB Y rfl M hn
   .cases j
  .cases h
 cases U:KU r1 with
 |none=>rw[U]at A;exact A.elim
 |some c=>
  rw[U]at A;refine(Z U G d1).c λY a9 M n1=>?_;subst a9;refine Zv Y false c ⟨rfl,M,n1.1,n1.2,hc,(λl B=>k2 O ρ S1 σ _ _ (G.new B) (sl.ext (x1.trans (G.newx B))) ((A.shift (G.newx B)).bind λab r2 S2 P H2 j x2 J d2 v=>?_))⟩
  replace v:=v.shift x2
  cases T:KU r2 with
  |none=>rw[T]at v;exact v.elim
  |some zs=>
   rw[T]at v;refine(Z T J d2).c λa2 ba s2 n2=>?_;subst ba;change Post X.g W P H2 _ Q at v;have C:=x2.keep _ _ zO λz=>G.fresh B z;refine Zv a2 false zs ⟨rfl,s2,n2.1,n2.2,hc,(λl2 b=>(Zw l l2 (yO c) (yO zs) ⟨rfl,rfl,?_,zO,(λl3 E=>(ZC l3 _ rfl zO ?_))⟩))⟩
   .rw[zD (zG C b)];exact C
   .exact(v.shift ((J.newx b).trans ((J.new b).newx E))).val ((J.new b).new E) (yQ _)
end
end M
end L2
namespace L2
open PySem PySem.Spec PyProof.Rows
inductive Fz:Hp->Hp->Prop
 |refl (H:Hp):Fz H H
 |step {H H1:Hp} {c:Addr} {o:Obj} {u:HO}:Fz H H1->H1 c=none->Fz H (yV H1 c (.frz o u))
def Fz.keep(h:Fz H H1): ∀{b}{o},H b=some o->H1 b=some o:=by
 induction h with
 |refl=>exact id
 |step _ n ih=>exact λe=>by rw[zD (zG (ih e) n)];exact ih e
open M
end L2
namespace L2
namespace M
namespace My
open PySem PySem.Spec PyProof.Rows
set_option bootstrap.genMatcherCode true in
local macro_rules
 | `(tactic|simp? [$xs,*] $[$l:location]?)=>`(tactic|simp only[List.getElem?_cons_zero,List.getElem?_cons_succ,So,aV,as_int,zBG,F7,add_int,sub_int,eq_int,F8,Lr,G3,G5,zBI,lst6,tup2,tup3,G6,G7,G8,G9,H9,J2,Sw,Sx,List.set_cons_zero,List.set_cons_succ,if_true,Sz,Sy,vJ,kJ,bJ,dJ,nJ,aJ,oJ,iJ,mJ,tJ,zJ,fJ,eJ,uJ,pJ,jJ,qJ,rJ,sJ,wJ,yJ,AJ,BJ,CJ,DJ,EJ,FJ,GJ,HJ,JJ,NJ,$xs,*] $[$l:location]?)
set_option bootstrap.genMatcherCode true in
local macro_rules
 |`(#[$x])=>`(some (.loc $x))
 |`(#[$x,0])=>`(some (.int $x))
 |`(#[$x,1])=>`(.val (.loc $x))
 |`(#[$x,2])=>`(some (.lst $x))
 |`(#[$x,3])=>`(some (.tup $x))
 |`(#[$x,4])=>`(some (.str $x))
 |`(#[$x,5])=>`(.val (.int $x))
 |`(#[$x,6])=>`(.val (.tup $x))
 |`(#[$x,7])=>`(some (.dic $x))
 |`(#[$x,8])=>`(($x).map MV.str)
 |`(#[])=>`(by lia)
 |`(#[$x,$s,0])=>`(.ok (.next $x) $s)
 |`(#[$x,$s,1])=>`(.ok (.val $x) $s)
 |`(#[$x,$s,2])=>`(.ok (.new $x) $s)
abbrev HD:List Str:=["book","number","told"]
abbrev KW:List Str:=[Š,š,ţ]
abbrev HE:List Str:=[Š,š,Ũ,"_law_j"]
abbrev uA:List Str:=[Ţ,ţ,"_law_error","e",Ū]
noncomputable abbrev XNS:List Str:=["TooGreat","NoText","NoPlace","NotPlain","NoTable","NoRule","NoRow","Twice","NoQuestion","Double","TooWide","Ring"]
noncomputable abbrev Hk:List Str:=["Rule","Never","Apart","Tie"]
abbrev AF:=AY
abbrev AE:=AX
section
set_option bootstrap.genMatcherCode true in
local macro_rules(kind:=char)
 |`($c:char)=>`(vJ $(Lean.quote (c.getChar.toNat-48)))
set_option bootstrap.genMatcherCode true in
local macro_rules
 |`(↑$n)=>match n.raw.isStrLit? with
  |some s=>`(kJ (MV.str [$((s.toList.map λc=>Lean.Syntax.mkNumLit (toString c.toNat)).toArray),*]))
  |none=>`(kJ (MV.int $n))
set_option bootstrap.genMatcherCode true in
local macro_rules(kind:=«term{_}»)
 |s=>do
  let mut r<-`(wJ)
  for x in s[1].getSepArgs.reverse do r<-`(yJ $(⟨x⟩) $r)
  return r
def fnJ(N:List Str)(F:AF)(ds:Q0)(S:Sto):R Er:=zN (F (zH N ds) S)
def DT:AF:=AJ (aJ (bJ {'0',kJ (.typ "int")} FD) (nJ (bJ {'0',kJ (.typ "bool")} FD)))
def KY:AF:=DT
def rK:=fnJ ["thing"] KY
def fI:AF:=iJ (bJ (dJ iQ (dJ yE '0' ↑0) ↑"is") gB) (AJ (dJ yE '0' ↑1)) JJ
def fK:AF:=AJ (dJ yE (dJ yE (dJ yE '1' (dJ yE '0' ↑1)) ↑1) (dJ yE '0' ↑2))
def DU:AF:=zF fI fK
def eE:=fnJ ["side","looked_at"] DU
def uB:AF:=CJ (fJ 2 eE {dJ yE '1' ↑0,'0'}) 2
def uC:AF:=CJ (fJ 2 eE {dJ yE '1' ↑2,'0'}) 3
def iT:AF:=iJ (bJ (dJ iQ (dJ yE '1' ↑1) ↑"same") gB) (AJ (dJ iQ '2' '3')) JJ
def iU:AF:=iJ (bJ (dJ iQ (dJ yE '1' ↑1) ↑"unlike") gB) (AJ (dJ MH '2' '3')) JJ
def uD:AF:=AJ (aJ (fJ 1 rK {'2'}) (aJ (fJ 1 rK {'3'}) (dJ Kz '2' '3')))
def vU:AF:=zF uB (zF uC (zF iT (zF iU uD)))
def FN:=fnJ ["looked_at","test","left","right"] vU
def gV:AZ:=uJ
def wU:AE:=fJ 2 FN {'1','0'}
def nK:AF:=AJ (bJ {pJ (bJ '1' Fg) (yG 0) gV wU 1 [0]} Ld)
def cR:AF:=nK
def wK:=fnJ ["looked_at","tests"] cR
def uE:AZ:=uJ
def fM:AE:=dJ yE (dJ yE '1' ↑1) '0'
def rL:AF:=AJ (pJ (bJ '1' Fg) (yG 0) uE fM 1 [0])
def rM:AF:=rL
def rN:=fnJ ["row","columns"] rM
def BD:AF:=AJ (kJ (.bl false))
def HF:AF:=BD
def dX(ds:Q0)(S:Sto):R Er:=zN (HF (zH ["self","row"] ds) S)
def aW:AF:=AJ (kJ (.bl false))
def iV:AF:=aW
def xF(ds:Q0)(S:Sto):R Er:=zN (iV (zH ["self","row","other"] ds) S)
def uF:AF:=AJ (kJ (.bl false))
def DV:AF:=uF
def gW(ds:Q0)(S:Sto):R Er:=zN (DV (zH ["self","row","rows"] ds) S)
def fO:AF:=AJ (aJ (dJ iQ (dJ yE '1' ↑0) (dJ yE (bJ '0' (iS Hk "parts")) ↑1)) (fJ 2 wK {bJ {'1'} yW,dJ yE (bJ '0' (iS Hk "parts")) ↑2}))
def eF:AF:=fO
def DW:=fnJ ["self","row"] eF
def yB:AF:=iJ (sJ (bJ (dJ MH (dJ yE '1' ↑0) (dJ yE (bJ '0' (iS Hk "parts")) ↑1)) gB) (bJ (dJ MH (dJ yE '2' ↑0) (dJ yE (bJ '0' (iS Hk "parts")) ↑2)) gB)) (AJ (kJ (.bl false))) JJ
def xT:AF:=AJ (fJ 2 wK {bJ {'1','2'} yW,dJ yE (bJ '0' (iS Hk "parts")) ↑3})
def wO:AF:=zF yB xT
def xB:=fnJ ["self","row","other"] wO
def kG:List (Str×(List MV->Sto->R Er)):=[("Apart",xB)]
def wY:AF:=AJ (oJ (NJ "parts_in_turn" 3 kG '0' {'1','2'}) (NJ "parts_in_turn" 3 kG '0' {'2','1'}))
def xY:AF:=wY
def fP:=fnJ ["self","row","other"] xY
def nL:AY:=iJ (rJ (bJ (dJ iQ (dJ yE '4' ↑0) (dJ yE (bJ '0' (iS Hk "parts")) ↑3)) gB) (bJ (dJ iQ (fJ 2 rN {'4',dJ yE (bJ '0' (iS Hk "parts")) ↑4}) '3') gB)) (AJ (kJ (.bl false))) JJ
def cS:AY:=nL
def cT:AF:=iJ (bJ (dJ MH (dJ yE '1' ↑0) (dJ yE (bJ '0' (iS Hk "parts")) ↑1)) gB) (AJ (kJ (.bl false))) JJ
def mH:AF:=CJ (fJ 2 rN {'1',dJ yE (bJ '0' (iS Hk "parts")) ↑2}) 3
def cU:AF:=FJ (bJ '2' FA) (yG 4) cS
def BE:AF:=AJ (kJ (.bl true))
def iW:AF:=zF cT (zF mH (zF cU BE))
def iY:=fnJ ["self","row","rows","asked","other"] iW
def dY:AF:=iJ (bJ (dJ iQ (dJ yE '0' ↑0) ↑"never") gB) (AJ (bJ '0' (Gf "Never" "parts"))) JJ
def iZ:AF:=iJ (bJ (dJ iQ (dJ yE '0' ↑0) ↑"apart") gB) (AJ (bJ '0' (Gf "Apart" "parts"))) JJ
def HG:AF:=AJ (bJ '0' (Gf "Tie" "parts"))
def OP:AF:=zF dY (zF iZ HG)
def FO:=fnJ ["parts"] OP
def fQ:AZ:=uJ
def gX:AE:=fJ 1 FO {'0'}
def eG:AF:=AJ (pJ (bJ (dJ yE '0' ↑1) Fg) (yG 0) fQ gX 1 [])
def rO:AF:=eG
def fR:=fnJ ["book"] rO
def rP:AF:=AJ (bJ {bJ {dJ yE '0' ↑2} kE} KB)
def rQ:AF:=rP
def rR:=fnJ ["book"] rQ
def fS:AZ:=uJ
def gY:AE:=bJ {'1','0'} wD
def fU:AY:=BJ (eJ gU Ud '1' {pJ (bJ (tJ iI '0' (bJ (dJ yF '2' ↑1) An) mJ) Fg) (yG 0) fS gY 1 [3]})
def gZ:AY:=fU
def DX:AF:=CJ (bJ wJ yW) 1
def rS:AF:=FJ (bJ {'0'} Ls) (PZ 2 (yC (yG 2) (yC (yG 3) aU))) gZ
def DY:AF:=AJ '1'
def CB:AF:=zF DX (zF rS DY)
def CC:=fnJ ["rows","pairs","place","i"] CB
def CD:AF:=AJ (bJ {dJ yE '1' ↑0,tJ iI (dJ yE '1' ↑1) mJ (bJ (dJ yE (dJ yE '0' (dJ yE '1' ↑0)) ↑1) An)} wD)
def DZ:AF:=CD
def EA:=fnJ ["tables","row"] DZ
def wL:List (Str×(List MV->Sto->R Er)):=[("Rule",xF),("Never",xF),("Apart",fP),("Tie",xF)]
def xN:AZ:=bJ (NJ "parts_them" 3 wL '1' {'4','5'}) lX
def xO:AE:=bJ {↑"apart",'2','3','0'} wD
def bA:AF:=CJ (dJ yE (dJ yE '0' ↑2) '2') 4
def bB:AF:=CJ (dJ yE (dJ yE '0' ↑2) '3') 5
def bC:AF:=CJ (pJ (bJ {'1'} Ls) (PZ 2 (yC (yG 0) (yC (yG 1) aU))) xN xO 2 [2,3,4,5]) 6
def bD:AF:=iJ (bJ (dJ iQ (fJ 2 EA {dJ yE '0' ↑0,'4'}) (fJ 2 EA {dJ yE '0' ↑0,'5'})) gB) (BJ (eJ gU AQ '6' {bJ {↑"key",'2','3'} wD})) JJ
def lB:AF:=AJ '6'
def jO:AF:=zF bA (zF bB (zF bC (zF bD lB)))
def nN:=fnJ ["book","rules","i","j","row","other","parted"] jO
def qH:List (Str×(List MV->Sto->R Er)):=[("Rule",gW),("Never",gW),("Apart",gW),("Tie",iY)]
def cV:AZ:=qJ (bJ (NJ "lacks" 3 qH '2' {'3',bJ {'1'} yW}) lX)
def mI:AE:='0'
def cW:AY:=iJ (bJ (NJ "lacks" 3 qH '2' {'4',bJ wJ yW}) lX) (BJ (eJ gU AQ '1' {bJ {'3',pJ (bJ {dJ yE '0' ↑2} Ls) (PZ 2 (yC (yG 0) (yC (yG 1) aU))) cV mI 2 [2,4]} wD})) JJ
def gK:AY:=cW
def mK:AY:=FJ (bJ {dJ yE '0' ↑2} Ls) (PZ 2 (yC (yG 3) (yC (yG 4) aU))) gK
def dZ:AY:=mK
def HI:AF:=CJ (bJ wJ yW) 1
def uG:AF:=FJ (bJ (fJ 1 fR {'0'}) FA) (yG 2) dZ
def HK:AF:=AJ '1'
def FP:AF:=zF HI (zF uG HK)
def cI:=fnJ ["book","ties","rule","i","row"] FP
def cJ:AY:=iJ (bJ (dJ (KG false) '2' '0') gB) (AJ (kJ (.bl true))) JJ
def bE:AY:=cJ
def bF:AF:=FJ (bJ '1' FA) (yG 2) bE
def uH:AF:=AJ (kJ (.bl false))
def rV:AF:=zF bF uH
def rW:=fnJ ["kept","some","number"] rV
def yY:AZ:=rJ (bJ (dJ (KG false) '0' '2') gB) (qJ (bJ (fJ 2 rW {'2','1'}) lX))
def gC:AE:='0'
def kH:AF:=AJ (pJ (bJ '0' FA) (PZ 2 (yC (yG 0) (yC (yG 1) aU))) yY gC 2 [1])
def bG:AF:=kH
def bH:=fnJ ["ties","kept"] bG
def bI:AZ:=uJ
def wV:AE:=bJ {'0',kJ (.bl true)} wD
def bK:AY:=BJ (eJ KI OD '2' {'4',kJ .non})
def wF:AY:=bK
def bL:AY:=FJ (bJ '3' FA) (yG 4) wF
def bM:AY:=CJ (fJ 2 bH {'0','2'}) 3
def nO:AY:=zF bL bM
def kI:AZ:=bJ '3' lX
def nP:AF:=CJ (bJ {pJ (bJ '1' FA) (yG 0) bI wV 1 []} Bu) 2
def nQ:AF:=CJ (fJ 2 bH {'0','2'}) 3
def sZ:AF:=(λa S=>eX (kI) (nO) 10000 a S)
def nS:AF:=AJ (bJ {'2'} OG)
def cX:AF:=zF nP (zF nQ (zF sZ nS))
def yU:=fnJ ["ties","rows","kept","untied","i"] cX
def vV:List (Str×(List MV->Sto->R Er)):=[("Rule",dX),("Never",DW),("Apart",dX),("Tie",dX)]
def CF:AZ:=uJ
def rX:AE:=NJ "bars" 2 vV '0' {dJ yE (dJ yE '2' ↑2) '1'}
def rY:AZ:=qJ (bJ (bJ {pJ (bJ '2' FA) (yG 0) CF rX 1 [0,1]} UG) lX)
def CG:AE:='0'
def KZ:AF:=CJ (fJ 1 fR {'0'}) 2
def LA:AF:=CJ (pJ (bJ '1' Fg) (yG 0) rY CG 1 [0,2]) 3
def EB:AF:=AJ (fJ 2 yU {fJ 1 cI {'0'},'3'})
def QZ:AF:=zF KZ (zF LA EB)
def LB:=fnJ ["book","rows","rules","allowed"] QZ
def cY:AZ:=bJ (fJ 4 nN {'2','3','0','1'}) lX
def cZ:AE:=bJ {'0','1'} wD
def uI:AF:=CJ (fJ 1 fR {'0'}) 1
def uK:AF:=AJ (pJ (bJ (fJ 1 CC {fJ 2 LB {'0',fJ 1 rR {'0'}}}) FA) (PZ 2 (yC (yG 0) (yC (yG 1) aU))) cY cZ 2 [0,1])
def vW:AF:=zF uI uK
def FQ:=fnJ ["book","rules"] vW
def mL:AY:=BJ (eJ gU AQ (eJ KI YQ '1' {'2',bJ wJ yW}) {'3'})
def mP:AY:=BJ (eJ gU AQ (eJ KI YQ '1' {'3',bJ wJ yW}) {'2'})
def lE:AY:=zF mL mP
def uL:AF:=CJ zJ 1
def uM:AF:=FJ (bJ (fJ 1 FQ {'0'}) FA) (PZ 2 (yC (yG 2) (yC (yG 3) aU))) lE
def uN:AF:=AJ '1'
def FR:AF:=zF uL (zF uM uN)
def qI:=fnJ ["book","foes","i","j"] FR
def nU:AF:=(iJ (bJ (dJ Xt (bJ (yJ (vJ 0) wJ) VC) (kJ (.int (15)))) gB) ((λ_ _=>R.no)) (JJ))
def dA:AF:=nU
def mQ:=fnJ ["foes"] dA
def dB:AZ:=uJ
def jD:AE:=dJ (MK false) '0' '1'
def mT:AZ:=uJ
def dC:AE:=oJ (dJ (MK false) '0' '1') (bJ {pJ (bJ (dJ QW '2' '0') FA) (yG 0) dB jD 1 [1]} UG)
def uO:AF:=AJ (bJ {pJ (bJ '1' FA) (yG 0) mT dC 1 [0,2]} Ld)
def vX:AF:=uO
def FS:=fnJ ["rows","known","foes"] vX
def xP:AZ:=bJ (dJ (MK true) '0' (dJ QW '1' '2')) gB
def kQ:AE:='0'
def kR:AY:=CJ (bJ {pJ (bJ '5' Fg) (yG 0) xP kQ 1 [0,3]} wX) 6
def kS:AY:=iJ (bJ (dJ MH '6' '5') gB) (EJ (kJ (.bl true)) (DJ DG '4' '5')) JJ
def kT:AY:=iJ (bJ (fJ 3 FS {dJ yF '6' (bJ {'3'} wD),'1','0'}) lX) (EJ (kJ (.bl true)) (DJ DG '4' (dJ yF '6' (bJ {'3'} wD)))) JJ
def xG:AY:=zF kR (zF kS kT)
def kU:AY:=BJ (eJ gU AQ '1' {'3'})
def kW:AY:=CJ zJ 4
def kX:AY:=FJ (bJ '2' FA) (yG 5) xG
def kY:AY:=CJ (bJ {'4'} FL) 2
def bN:AY:=zF kU (zF kW (zF kX kY))
def lF:AF:=CJ (bJ wJ yW) 1
def bO:AF:=CJ (bJ {bJ wJ wD} yW) 2
def bP:AF:=FJ (bJ (bJ {'0'} OH) FA) (yG 3) bN
def lG:AF:=AJ '2'
def tB:AF:=zF lF (zF bO (zF bP lG))
def nV:=fnJ ["foes","known","told","newest","grown","rows","left"] tB
def uP:AF:=AJ (dJ iQ (zCK {'1'} {'0'}) ↑0)
def vY:AF:=uP
def qK:=fnJ ["rows","some"] vY
def wZ:AF:=AJ (aJ (dJ Xt (bJ {'0'} kE) (bJ {'1'} kE)) (fJ 2 qK {'0','1'}))
def xZ:AF:=wZ
def gD:=fnJ ["rows","some"] xZ
def eH:AZ:=bJ (dJ (KG true) '0' '1') gB
def rZ:AE:='0'
def sB:AY:=EJ (kJ (.bl true)) (DJ DG '4' (fJ 2 yU {'3',bJ {dJ yF '2' (bJ {'5'} HA)} UV}))
def fV:AY:=sB
def sC:AZ:=uJ
def eI:AE:=fJ 2 gD {'0','1'}
def eK:AZ:=qJ (bJ (bJ {pJ (bJ '1' QX) (yG 0) sC eI 1 [0]} UG) lX)
def sE:AE:='0'
def CH:AF:=CJ (fJ 1 qI {'0'}) 1
def CI:AF:=BJ (fJ 1 mQ {'1'})
def CK:AF:=CJ (pJ (bJ (fJ 2 LB {'0',fJ 1 rR {'0'}}) Fg) (yG 0) eH rZ 1 [1]) 2
def fW:AF:=CJ (fJ 1 cI {'0'}) 3
def CL:AF:=CJ zJ 4
def CM:AF:=FJ (bJ (fJ 1 nV {'1'}) FA) (yG 5) fV
def sF:AF:=AJ (bJ {pJ (bJ '4' QX) (yG 0) eK sE 1 [4]} KF)
def EC:AF:=zF CH (zF CI (zF CK (zF fW (zF CL (zF CM sF)))))
def bQ:=fnJ ["book","foes","unharmed","ties","found","rows"] EC
def mU:AF:=CJ (fJ 1 bQ {'0'}) 2
def dE:AF:=iJ (qJ (bJ (jJ zBE Kz ↑0 '1' (bJ {'2'} kE)) gB)) (GJ {↑"no mended book has this number"} "NoPlace") JJ
def BF:AF:=AJ (dJ yE '2' '1')
def uQ:AF:=zF mU (zF dE BF)
def nA:=fnJ HD uQ
def mV:AF:=AJ (dJ (MK false) (bJ {'1'} wX) (fJ 1 bQ {'0'}))
def lH:AF:=mV
def uR:=fnJ ["book","rows"] lH
def bR:AY:=iJ (bJ (fJ 2 qK {'2','1'}) lX) (AJ '2') JJ
def wG:AY:=bR
def jP:AF:=FJ (bJ (fJ 1 bQ {'0'}) FA) (yG 2) wG
def tD:AF:=AJ (kJ .non)
def dF:AF:=zF jP tD
def mW:=fnJ ["book","rows","told"] dF
def kL:AF:=iJ (bJ (dJ Kz '1' (bJ {'0'} kE)) gB) (AJ (dJ yE '0' '1')) JJ
def qL:AF:=AJ ↑0
def fX:AF:=zF kL qL
def zS:=fnJ [ş,š] fX
def eM:AF:=CJ (dJ eY (dJ yF (dJ yF (dJ yF (dJ eY '0' ↑2147483647) (dJ lZ (dJ lZ ↑7919 '1') '1')) (dJ lZ ↑101 '1')) ↑11) ↑2147483647) 2
def eO:AF:=CJ (dJ eY (dJ yF (dJ yF (dJ lZ '2' '2') (dJ lZ ↑48271 '2')) ↑13) ↑2147483647) 2
def eP:AF:=AJ (dJ eY (dJ yF (dJ yF (dJ lZ '2' '2') (dJ lZ ↑69621 '2')) ↑7) ↑2147483629)
def CN:AF:=zF eM (zF eO eP)
def wA:=fnJ KW CN
def mX:AF:=CJ (dJ eY (dJ yE '0' ↑0) '1') 2
def mY:AF:=EJ (dJ tU (dJ yE '0' ↑0) '1') (DJ NS '0' ↑0)
def BG:AF:=AJ '2'
def HL:AF:=zF mX (zF mY BG)
def zC:=fnJ [Ş,Ť,Ũ] HL
def nW:AY:=CJ (dJ yF (dJ lZ '2' ↑2147483629) (fJ 2 wA {dJ tU '0' ↑2,dJ yF (dJ yF ↑100 (dJ lZ ↑6 '1')) '3'})) 2
def dG:AY:=nW
def dH:AF:=iJ (bJ (dJ iQ (dJ eY '0' ↑2) ↑0) gB) (AJ (bJ {dJ tU '0' ↑2} yW)) JJ
def mZ:AF:=CJ ↑0 2
def dI:AF:=FJ (bJ {↑6} gH) (yG 3) dG
def dL:AF:=AJ (bJ {'2'} yW)
def lI:AF:=zF dH (zF mZ (zF dI dL))
def yP:=fnJ HE lI
def jQ:AZ:=bJ (bJ {'0',kJ (.typ "str")} FD) lX
def nY:AE:='0'
def nZ:AZ:=uJ
def jR:AE:=dJ yE '2' (fJ 2 zC {'1',↑26})
def BH:AF:=CJ ↑"abcdefghijklmnopqrstuvwxyz" 2
def oA:AF:=CJ (pJ (bJ '1' FA) (yG 0) jQ nY 1 []) 3
def oB:AF:=CJ (eJ JO NY (kJ (.str [])) {pJ (bJ {dJ yF ↑1 (fJ 2 zC {'0',↑8})} gH) (yG 0) nZ jR 1 [0,2]}) 4
def oE:AF:=CJ (fJ 2 zC {'0',↑3}) 5
def jE:AF:=iJ (sJ (bJ (dJ iQ '5' ↑0) gB) (bJ (dJ iQ '3' (bJ wJ yW)) gB)) (AJ '4') JJ
def jF:AF:=iJ (bJ (dJ iQ '5' ↑1) gB) (AJ (tJ iI (dJ yF (dJ yE '3' ↑(-1)) '4') mJ (bJ (bJ {↑8,dJ yF (bJ {dJ yE '3' ↑(-1)} kE) ↑1} Ts) An))) JJ
def jG:AF:=CJ (fJ 2 zC {'0',bJ {dJ yE '3' ↑(-1)} kE}) 6
def jH:AF:=AJ (dJ yF (dJ yF (tJ iI (dJ yE '3' ↑(-1)) mJ (bJ '6' An)) (dJ yE '4' ↑0)) (tJ iI (dJ yE '3' ↑(-1)) (bJ (dJ yF '6' ↑1) An) mJ))
def lK:AF:=zF BH (zF oA (zF oB (zF oE (zF jE (zF jF (zF jG jH))))))
def lL:=fnJ [Ş,Ŝ,"_law_letters","_law_names","_law_word_here",Ŭ,"_law_at"] lK
def aB:AY:=CJ (fJ 2 zC {'1',↑4}) 4
def aC:AY:=CJ (dJ Fk (fJ 2 zC {'1',↑9}) ↑4) 5
def wH:AY:=iJ (bJ (dJ iQ '4' ↑0) gB) (CJ (dJ yF (dJ Fk (fJ 2 zC {'1',dJ Fk (dJ lZ ↑2 (dJ QF ↑10 ↑30)) ↑1}) (dJ QF ↑10 ↑30)) ↑1) 5) JJ
def wI:AY:=iJ (sJ (bJ (dJ iQ '4' ↑1) gB) (bJ (dJ iQ '4' ↑2) gB)) (CJ (fJ 2 lL {'1','2'}) 5) JJ
def jS:AY:=iJ (bJ (dJ (MK true) '5' '2') gB) (BJ (eJ gU AQ '2' {'5'})) JJ
def dM:AY:=zF aB (zF aC (zF wH (zF wI jS)))
def oF:AF:=CJ (fJ 2 yP {'0',↑1}) 1
def oG:AF:=CJ (bJ wJ yW) 2
def oH:AF:=FJ (bJ {dJ yF ↑2 (fJ 2 zC {'1',↑3})} gH) (yG 3) dM
def BI:AF:=AJ '2'
def lN:AF:=zF oF (zF oG (zF oH BI))
def uS:=fnJ [Š,Ş,Ŝ,š,Ŭ,"_law_value"] lN
def bS:AY:=CJ (dJ yF ↑1 (fJ 2 zC {'1',↑4})) 4
def bT:AY:=CJ (dJ yE (bJ {↑0,↑1,↑1,'4',fJ 2 zC {'1',dJ yF '4' ↑1}} yW) (fJ 2 zC {'1',↑5})) 5
def bU:AY:=BJ (eJ gU AQ '2' {bJ {'4','5'} wD})
def jT:AY:=zF bS (zF bT bU)
def aD:AF:=CJ (fJ 2 yP {'0',↑2}) 1
def aF:AF:=CJ (bJ wJ yW) 2
def aG:AF:=FJ (bJ {dJ yF ↑1 (fJ 2 zC {'1',↑4})} gH) (yG 3) jT
def aH:AF:=AJ (bJ {'2'} wX)
def dN:AF:=zF aD (zF aF (zF aG aH))
def oI:=fnJ [Š,Ş,ŝ,š,"_law_wide","_law_key"] dN
def fY:AZ:=uJ
def bV:AE:=dJ yE '1' (fJ 2 zC {'2',bJ {'1'} kE})
def sG:AF:=CJ (fJ 2 yP {'0',↑3}) 3
def sH:AF:=CJ (fJ 2 zC {'3',bJ {'1'} kE}) 4
def sI:AF:=AJ (bJ {'4',bJ {pJ (bJ {dJ yE (dJ yE '1' '4') ↑0} gH) (yG 0) fY bV 1 [2,3]} wX} wD)
def sK:AF:=zF sG (zF sH sI)
def CO:=fnJ [Š,ŝ,Ŝ,Ş,"_law_t"] sK
def aI:AY:=CJ (fJ 3 CO {'5','1','2'}) 6
def jU:AY:=iJ (rJ (bJ (dJ (MK true) '6' '4') gB) (bJ (dJ Kz (bJ {'4'} kE) '3') gB)) (BJ (eJ gU AQ '4' {'6'})) JJ
def jI:AY:=zF aI jU
def oK:AF:=CJ (bJ wJ yW) 4
def oO:AF:=FJ (bJ '0' FA) (yG 5) jI
def oP:AF:=AJ (bJ {'4'} wX)
def lO:AF:=zF oK (zF oO oP)
def uT:=fnJ [ũ,ŝ,Ŝ,Ŧ,"_law_rows_here",Š,"_law_row_here"] lO
def dO:AF:=iJ (bJ (dJ iQ (fJ 2 zC {'0',↑3}) ↑0) gB) (AJ (bJ {↑"is",dJ yE '3' (fJ 2 zC {'0',bJ {'3'} kE})} wD)) JJ
def oQ:AF:=CJ (fJ 2 zC {'0',bJ {'1'} kE}) 4
def oR:AF:=AJ (bJ {↑"cell",'4',fJ 2 zC {'0',dJ yE (dJ yE '2' (dJ yE '1' '4')) ↑0}} wD)
def uU:AF:=zF dO (zF oQ oR)
def nB:=fnJ [Ş,ť,ŝ,Ŝ,š] uU
def cK:AY:=CJ (fJ 4 nB {'0','1','2','3'}) 6
def cL:AY:=CJ (fJ 4 nB {'0','1','2','3'}) 7
def cN:AY:=BJ (eJ gU AQ '4' {bJ {'6',dJ yE (bJ {↑"same",↑"unlike",↑"less",↑"same"} yW) (fJ 2 zC {'0',↑4}),'7'} wD})
def bW:AY:=zF cK (zF cL cN)
def uV:AF:=CJ (bJ wJ yW) 4
def fZ:AF:=FJ (bJ {dJ yE (bJ {↑1,↑1,↑2,↑3} yW) (fJ 2 zC {'0',↑4})} gH) (yG 5) bW
def iA:AF:=AJ (bJ {'4'} wX)
def sM:AF:=zF uV (zF fZ iA)
def kM:=fnJ [Ş,ť,ŝ,Ŝ,"_law_tests_here",š,"_law_left","_law_right"] sM
def tE:AZ:=uJ
def jV:AE:=fJ 2 zC {'2',dJ yE (dJ yE '1' '3') ↑0}
def tF:AZ:=uJ
def jW:AE:=fJ 2 zC {'2',dJ yE (dJ yE '1' '3') ↑0}
def oS:AF:=CJ (fJ 2 yP {'0',↑4}) 3
def oU:AF:=CJ (fJ 2 zC {'3',↑3}) 4
def oV:AF:=CJ (fJ 2 zC {'3',bJ {'1'} kE}) 5
def oW:AF:=CJ (fJ 2 zC {'3',bJ {'1'} kE}) 6
def wM:AF:=iJ (bJ (dJ iQ '4' ↑0) gB) (AJ (bJ {↑"never",'5',fJ 4 kM {'3',bJ {'5'} wD,'1','2'}} wD)) JJ
def dP:AF:=iJ (bJ (dJ iQ '4' ↑1) gB) (AJ (bJ {↑"apart",'5','6',fJ 4 kM {'3',bJ {'5','6'} wD,'1','2'}} wD)) JJ
def oX:AF:=CJ (dJ yE (bJ {↑1,↑2,↑1,↑3,↑1} yW) (fJ 2 zC {'3',↑5})) 7
def oY:AF:=CJ (bJ {pJ (bJ {'7'} gH) (yG 0) tE jV 1 [1,3,5]} wX) 8
def oZ:AF:=CJ (bJ {pJ (bJ {'7'} gH) (yG 0) tF jW 1 [1,3,6]} wX) 9
def iB:AF:=AJ (bJ {↑"tie",'5','8','6','9'} wD)
def lP:AF:=zF oS (zF oU (zF oV (zF oW (zF wM (zF dP (zF oX (zF oY (zF oZ iB))))))))
def gN:=fnJ [Š,ŝ,Ŝ,Ş,Ŭ,"_law_t","_law_u",Ť,"_law_columns","_law_others"] lP
def aK:AZ:=uJ
def jX:AE:=fJ 3 gN {fJ 2 zS {'1',dJ yF ↑3 '0'},'3','2'}
def aL:AY:=BJ (eJ gU AQ '7' {dJ yF ↑1 (dJ lZ ↑2 (fJ 2 wA {fJ 2 zS {'0',↑2},dJ yF ↑30 '8'}))})
def dQ:AY:=aL
def pA:AF:=CJ (fJ 1 uS {fJ 2 zS {'0',↑0}}) 3
def pB:AF:=CJ (fJ 1 oI {fJ 2 zS {'0',↑1}}) 4
def pC:AF:=CJ (fJ 2 zC {fJ 2 yP {fJ 2 zS {'0',↑2},↑5},dJ yE (bJ {↑2,↑3,↑5,↑7} yW) '2'}) 5
def pD:AF:=CJ (bJ {pJ (bJ {'5'} gH) (yG 0) aK jX 1 [0,3,4]} wX) 6
def pE:AF:=CJ (bJ {tJ iI '0' (bJ (dJ yF ↑3 '5') An) mJ} HA) 7
def pF:AF:=FJ (bJ {dJ eY (fJ 2 wA {fJ 2 zS {'0',↑2},↑6}) (dJ yF '1' ↑1)} gH) (yG 8) dQ
def pG:AF:=AJ (bJ {'4','6',fJ 4 uT {tJ iI '7' mJ (bJ (dJ lZ ↑2 '1') An),'4','3','1'}} wD)
def lQ:AF:=zF pA (zF pB (zF pC (zF pD (zF pE (zF pF pG)))))
def uW:=fnJ [ş,Ŧ,"_law_room",Ŝ,ŝ,Ť,"_law_rules",ũ,š] lQ
def CP:AY:=CJ '3' 2
def FT:AY:=CP
def FU:AF:=CJ (kJ .non) 2
def qM:AF:=HJ XNS 3 FT 2 nA {'0','1'}
def qN:AF:=iJ (sJ (qJ (bJ (bJ '2' (tX XNS "NoPlace")) lX)) (qJ (bJ (bJ '2' (Lx XNS)) lX))) (AJ (kJ (.bl false))) JJ
def qO:AF:=CJ (bJ {bJ '2' (tX XNS "Double"),bJ '2' (tX XNS "NoQuestion"),bJ '2' (tX XNS "NoRow")} yW) 4
def qP:AF:=CJ (dJ yF '4' (bJ {bJ '2' (tX XNS "NoRule"),bJ '2' (tX XNS "NotPlain"),bJ '2' (tX XNS "NoTable")} yW)) 4
def qQ:AF:=CJ (dJ yF '4' (bJ {bJ '2' (tX XNS "NoText"),bJ '2' (tX XNS "Ring"),bJ '2' (tX XNS "TooGreat")} yW)) 4
def qS:AF:=AJ (nJ (bJ {dJ yF '4' (bJ {bJ '2' (tX XNS "TooWide"),bJ '2' (tX XNS "Twice")} yW)} UG))
def iC:AF:=zF FU (zF qM (zF qN (zF qO (zF qP (zF qQ qS)))))
def iD:=fnJ uA iC
def jY:AZ:=bJ (dJ iQ (dJ eY (dJ M4 '1' '0') ↑3) ↑0) gB
def aM:AE:='0'
def aO:AY:=CJ (fJ 2 wA {fJ 2 zS {'0',↑1},dJ yF ↑40 '5'}) 6
def aP:AY:=CJ (dJ yE '2' (dJ eY '6' (bJ {'2'} kE))) 7
def jZ:AY:=iJ (rJ (bJ (dJ iQ (dJ eY (dJ tU '6' ↑64) ↑3) ↑0) gB) (bJ (dJ MH '7' (bJ wJ wD)) gB)) (zF (CJ (dJ eY (dJ tU '6' ↑192) (bJ {'7'} kE)) 8) (CJ (dJ yF (tJ iI '7' mJ (bJ '8' An)) (tJ iI '7' (bJ (dJ yF '8' ↑1) An) mJ)) 7)) (iJ (rJ (bJ (dJ iQ (dJ eY (dJ tU '6' ↑64) ↑3) ↑1) gB) (bJ (dJ Xt '3' ↑0) gB)) (CJ (bJ {bJ {dJ yF (bJ {'7'} HA) (bJ {dJ eY (dJ tU '6' ↑192) '3'} yW)} KR} wX) 7) JJ)
def aQ:AY:=BJ (eJ gU AQ '4' {'7'})
def aR:AY:=BJ (eJ gU AQ '4' {bJ {tJ iI (pJ (bJ {'3'} gH) (yG 0) jY aM 1 [6]) mJ (bJ ↑3 An)} wX})
def dR:AY:=zF aO (zF aP (zF jZ (zF aQ aR)))
def pH:AF:=CJ (bJ {dJ yE '1' ↑2} kE) 3
def pI:AF:=CJ (bJ {bJ wJ wD,bJ {'3'} KB} yW) 4
def pK:AF:=FJ (bJ {↑6} gH) (yG 5) dR
def BK:AF:=AJ '4'
def lR:AF:=zF pH (zF pI (zF pK BK))
def uX:=fnJ [ş,Ţ,ū,Ť,"_law_sets_here",š,ţ,Ū,"_law_cut"] lR
def FV:AY:=CJ (fJ 2 nA {'1','3'}) 4
def FW:AY:=iJ (sJ (qJ (bJ (bJ {'4',kJ (.typ "tuple")} FD) lX)) (bJ (dJ MH '4' (dJ yE '2' '3')) gB)) (AJ (kJ (.bl false))) JJ
def IK:AY:=zF FV FW
def FX:AY:=iJ (qJ (bJ (fJ 2 iD {'1','6'}) lX)) (AJ (kJ (.bl false))) JJ
def ED:AY:=FX
def vZ:AZ:=bJ (dJ (MK true) '0' '1') gB
def FY:AE:='0'
def AA:AZ:=bJ (dJ iQ (pJ (bJ '1' Fg) (yG 0) vZ FY 1 [0]) (bJ wJ yW)) gB
def FZ:AE:='0'
def GA:AY:=CJ (fJ 2 uR {'1','7'}) 4
def GB:AY:=iJ (sJ (qJ (bJ (bJ {'4',kJ (.typ "bool")} FD) lX)) (bJ (dJ MH '4' (dJ (MK false) '7' '2')) gB)) (AJ (kJ (.bl false))) JJ
def GC:AY:=CJ (dJ yF (pJ (bJ '2' FA) (yG 0) AA FZ 1 [7]) (bJ {kJ .non} yW)) 8
def GD:AY:=iJ (bJ (dJ MH (fJ 2 mW {'1','7'}) (dJ yE '8' ↑0)) gB) (AJ (kJ (.bl false))) JJ
def IL:AY:=zF GA (zF GB (zF GC GD))
def RA:AF:=CJ (fJ 3 uW {'0',↑10,↑2}) 1
def RB:AF:=CJ (fJ 1 bQ {'1'}) 2
def RD:AF:=FJ (bJ {bJ {'2'} kE} gH) (yG 3) IK
def RE:AF:=CJ (dJ eY (fJ 2 wA {fJ 2 zS {'0',↑2},↑60}) (dJ yE (bJ {↑10,↑1000,dJ QF ↑10 ↑9} yW) (dJ eY (fJ 2 zS {'0',↑2}) ↑3))) 5
def RF:AF:=CJ (dJ lZ '5' (dJ yE (bJ {↑1,dJ QF ↑10 ↑20} yW) (dJ eY '5' ↑2))) 5
def RG:AF:=FJ (bJ (bJ {bJ {'2'} kE,dJ yF (bJ {'2'} kE) '5',↑(-1),bJ (bJ {'2'} kE) Ar,dJ Fk ↑(-1) '5'} yW) FA) (yG 6) ED
def RH:AF:=FJ (bJ (fJ 3 uX {'0','1','2'}) FA) (yG 7) IL
def RI:AF:=AJ (dJ iQ (fJ 1 bQ {'1'}) '2')
end
def Bz:AF:=zF (RA) (zF (RB) (zF (RD) (zF (RE) (zF (RF) (zF (RG) (zF (RH) ((RI))))))))
def VL:=fnJ [ş,Ţ,ū,š,Ũ,"_law_far",ţ,Ū,"_law_due"] Bz
section
variable{r:R α}
theorem ev_v(e:ρ[i]? =some (some d)):vJ i ρ S=#[d,S,1]:=by unfold vJ;rw[e];rfl
def ev_b{f:Rho->Sto->R β}(e:f ρ S=.ok a S1)(k:F a S1=r):bJ f F ρ S=r:=by unfold bJ;rw[e];exact k
def ev_d(e:f ρ S=.ok p S1)(a:g ρ S1=.ok q S2)(k:F p q S2=z):dJ F f g ρ S=z:=by unfold dJ;rw[e,aV,a];exact k
theorem ev_n(e:f ρ S=.ok p S1)(a:gB p S1=.ok k S2):nJ f ρ S=#[.bl !k,S2,1]:=by unfold nJ;rw[e,aV,a];rfl
def ev_i{f g:Rho->Sto->R α}(e:c ρ S=.ok k S1)(h:(if k=true then f ρ S1 else g ρ S1)=r):iJ c f g ρ S=r:=by unfold iJ;rw[e];exact h
def ev_t{g h:Rho->Sto->R (Option Int)}(e:f ρ S=.ok p S1)(j:g ρ S1=.ok a S2)(c:h ρ S2=.ok b S3)(k:F p a b S3=z):tJ F f g h ρ S=z:=by unfold tJ;rw[e,aV,j,aV,c];exact k
def ev_f(e:a ρ S=.ok rs S1)(k:zE n F rs S1=z):fJ n F a ρ S=z:=by unfold fJ;rw[e];exact k
def ev_e(e:f ρ S=.ok p S1)(c:t p S1=true)(b:a ρ S1=.ok rs S2)(k:F p rs S2=z):eJ t F f a ρ S=z:=by unfold eJ;rw[e,aV,iP c,b];exact k
def ev_p{g:(MV->Rho->Sto->R Rho)}(e:i ρ S=.ok k S1)(b:(k.ds.length)<1000000)(a:zW g c f (WO n I ρ) k.gs k.ds S1=.ok o S2)(h:#[o,S2,2]=z):pJ i g c f n I ρ S=z:=by unfold pJ;rw[e,aV,iP b,a];exact h
theorem ev_q{f:AZ}(e:f ρ S=.ok k S1):qJ f ρ S=.ok (!k) S1:=by unfold qJ;rw[e];rfl
theorem ev_y{g:(Rho->Sto->R (List Er))}(e:f ρ S=.ok p S1)(a:g ρ S1=.ok l S2):yJ f g ρ S=.ok (p::l) S2:=by unfold yJ;rw[e,aV,a];rfl
def ev_A(e:f ρ S=.ok p S1)(k:.ok (.ret p) S1=y):AJ f ρ S=y:=by unfold AJ;rw[e];exact k
def ev_B(e:f ρ S=.ok p S1)(k:#[ρ,S1,0]=y):BJ f ρ S=y:=by unfold BJ;rw[e];exact k
def ev_C(e:f ρ S=.ok p S1)(k:JI ρ i p S1=y):CJ f i ρ S=y:=by unfold CJ;rw[e];exact k
def ev_D{r:R Rho}(e:f ρ S=.ok p S1)(a:g ρ S1=.ok q S2)(k:F p q d ρ S2=r):DJ F f g d ρ S=r:=by unfold DJ;rw[e,aV,a];exact k
def ev_E{g:(MV->Rho->Sto->R Rho)}(e:f ρ S=#[d,S1,1])(k:g d ρ S1=.ok ρ' S2)(h:#[ρ',S2,0]=y):EJ f g ρ S=y:=by unfold EJ;rw[e];show(g d ρ S1).bind _=_;rw[k];exact h
def ev_F{g:(MV->Rho->Sto->R Rho)}(e:i ρ S=.ok k S1)(h:dU g b k.gs k.ds ρ S1=y):FJ i g b ρ S=y:=by unfold FJ;rw[e];exact h
end
section
def modA(h:0<b:=by first |decide|omega):eY #[a,5] #[b,5] S=.ok #[a % b,5] S:=mod_lit h a S
def divA(h:0<b/\b<1073741824:=by first |decide|omega):tU #[a,5] #[b,5] S=.ok #[a / b,5] S:=rD h.1 h.2 a S
def mulA(h: -(2 ^ 64)<a/\a<2 ^ 64:=by decide):lZ #[a,5] #[b,5] S=.ok #[a * b,5] S:=tV h b S
def mulB(h:0<=b/\b<4294967296:=by first |exact mdl|decide|omega):lZ #[a,5] #[b,5] S=.ok #[a * b,5] S:=Bb ⟨by lia,by lia⟩ a S
end
set_option bootstrap.genMatcherCode true in
local macro_rules
 | `(tactic|exists 7,$[$hs],*)=>`(tactic|first
  |(with_reducible first $[|exact $hs ..]*)
  |((with_reducible first |apply ev_v|apply ev_b|apply ev_d|apply ev_y|apply ev_f|apply ev_C|apply ev_A|apply ev_i|apply ite_t|apply ite_f|apply ev_F|apply ev_p|apply ev_e|apply ev_B|apply ev_r|apply ev_s|apply ev_q|apply ev_a|apply ev_o|apply ev_n|apply ev_t|apply ev_g|apply ev_E|apply ev_D)<;>exists 7,$[$hs],*)
  |(with_reducible first |exact eq_int .. |exact tup2 .. |exact tup3 .. |exact Lr .. |exact G3 .. |exact G5 .. |exact zBI ..)
  |(with_reducible show eY _ _ _=_);exact modA
  |(with_reducible show tU _ _ _=_);exact divA
  |(with_reducible show lZ _ _ _=_);(first |exact mulA|exact mulB)
  |(with_reducible show gH _ _=_);exact cH (by omega)
  |(with_reducible show zW _ _ _ _ _ _ _=_);(first $[|exact $hs]*)
  |(with_reducible show dU _ _ _ _ _ _=_);(first $[|exact $hs]*)
  |(with_reducible first $[|exact of_eq_true $hs]* $[|refine ite_d $hs ?_]* $[|refine ite_n $hs ?_]* $[|refine(iP $hs).trans ?_]* $[|refine(iN0 $hs).trans ?_]*)<;>exists 7,$[$hs],*
  |exact rfl)
def zB(h:F ρ S=#[ρ',S',0])(k:G ρ' S'=r):zF F G ρ S=r:=(dW h).trans k
theorem zY(h:X=.ok (.ret r) S):zN X=.ok r S:=by rw[h];rfl
section
theorem LC(k:gf d ρb S=.ok ρ1 S)(a:cf ρ1 S=.ok true S)(c:ef ρ1 S=#[y,S1,1])(b:stay gs S1)(j:zW gf cf ef ρb gs ds S1=.ok out S2):zW gf cf ef ρb gs (d::ds) S=.ok (y::out) S2:=by unfold zW;rw[k,rB,aV,a,rB,aV,c,rB,aV];unfold cG;rw[aV,iP b,j];rfl
def Ca(a:gf d ρb S=.ok ρ1 S)(b:cf ρ1 S=.ok false S)(c:stay gs S)(j:zW gf cf ef ρb gs ds S=.ok out S2):zW gf cf ef ρb gs (d::ds) S=.ok out S2:=by unfold zW;rw[a,rB,aV,b,rB,aV,iN0 xF0,iP c,j]
theorem yL{α:Type}{f g:α->MV}{p:α->Bool}(hs:stay gs S):
  ∀{ds:List α},(∀d∈ds, ∃j,gf (f d) ρb S=.ok j S/\cf j S=.ok (p d) S/\ef j S=#[g d,S,1])->zW gf cf ef ρb gs (ds.map f) S=.ok ((ds.filter p).map g) S
 |[],_=>rfl
 |d::ds,st=>by
  refine(st d (.head _)).c λj m k q=>?_;have e:=yL hs λd b=>st d (.tail _ b)
  cases a:p d with
  |true=>rw[List.filter_cons_of_pos a];exact LC m (a▸k) q hs e
  |false=>rw[List.filter_cons_of_neg (by rw[a];exact xF0)];exact Ca m (a▸k) hs e
def kN{α:Type}{f g:α->MV}(hs:stay gs S){ds:List α}(h: ∀d∈ds, ∃j,gf (f d) ρb S=.ok j S/\cf j S=.ok true S/\ef j S=#[g d,S,1]):zW gf cf ef ρb gs (ds.map f) S=.ok (ds.map g) S:=by rw[yL hs h,Ŗ.mpr λ_ _=>rfl]
theorem EE{P:MV->Prop}{I:Sto->Prop}:
  ∀{ds}{S},(∀d∈ds, ∀S,I S-> ∃j y S',gf d ρb S=.ok j S/\cf j S=.ok true S/\ef j S=#[y,S',1]/\P y/\I S'/\stay gs S')->I S-> ∃out S',zW gf cf ef ρb gs ds S=.ok out S'/\I S'/\out.length=↑13/\ ∀o∈out,P o
 |[],S,_,h=>(Zr ([]) S rfl h rfl (λo h=>by simp at h))
 |d::ds,S,st,h=>by refine(st d (.head _) S h).i λj y G C=>C.g λv q B m u k=>?_;refine(EE (λd b=>st d (.tail _ b)) u).k λout A e c w s=>?_;exact Zr _ A (LC v q B k e) c (by rw[lC0,lC0,w]) (λo a=>(mC.mp a).elim (λz=>z▸m) (s o))
end
theorem LD{α:Type}{f:α->MV}{p:α->Bool}(I:Rho->Prop)(hs:stay gs S):
  ∀{ds:List α},(∀d∈ds, ∀j,I j-> ∃k,gf (f d) j S=.ok k S/\(p d=true->body k S=.ok (.ret r) S)/\(p d=false-> ∃ρ',I ρ'/\body k S=#[ρ',S,0]))-> ∀j,I j->
   (ds.any p=true->dU gf body gs (ds.map f) j S=.ok (.ret r) S)/\(ds.any p=false-> ∃ρ',I ρ'/\dU gf body gs (ds.map f) j S=#[ρ',S,0])
 |[],_,j,h=>⟨(λz=>nomatch z),λ_=>⟨j,h,rfl⟩⟩
 |d::ds,st,j,h=>by
  refine(st d mF0 j h).c λk g y n=>?_;rw[List.any_cons,í]
  cases a:p d with
  |true=>exact⟨λ_=>Bd g (y a),λz=>nomatch z⟩
  |false=>
   refine(n a).a λρ' h' b=>?_;refine qq (tW g b hs) ?_;exact LD I hs (λd c=>st d (mO _ c)) ρ' h'
def uY{α β:Type}{f:α->MV}(J:Nat->β->Rho->Sto->Prop)(step)
  {ds:List α} (k) (st: ∀j d,ds[j]? =some d-> ∀b m S,J (k+j) b m S-> ∃ρ' S',((gf (f d) m S).bind λq u=>body q u)=#[ρ',S',0]/\stay gs S'/\J (k+j+1) (step b d) ρ' S') (b) (m) (S) (h:J k b m S):
   ∃ρ' S',dU gf body gs (ds.map f) m S=#[ρ',S',0]/\J (k+↑13) (ds.foldl step b) ρ' S':=by
 have:=fD (λi m S=>J (k+i) ((ds.take i).foldl step b) m S) (λi d hi m S o=>by rw[î]at hi;obtain⟨a,c,rfl⟩:=Ė.mp hi;have:=st i a c _ m S o;rw[take_add_one,c,List.foldl_append];exact this) h;rwa [lM0,take_length]at this
abbrev Old(S S':Sto):Prop:= ∀(m:Nat)(o:MO),S[m]? =some o->S'[m]? =some o
def Old.app(S T):Old S (S++T):=λm o h=>by rw[è (gS.mp h).1];exact h
def set_same{S:Sto}(h:S[l]? =some o):S.set l o=S:=by obtain⟨a,rfl⟩:=gS.mp h;exact List.set_getElem_self a
theorem GE(c:↑9=n)(j:F (zK rs S).1 (zK rs S).2=#[d,S.set l (.lst [.int x])++T,1])(h:lo ↑2 d)(q: ∀l,d≠.loc l):zE n F rs S=#[d,S.set l (.lst [.int x]),1]:=by
 unfold zE;rw[iP c,j,rB,aV];have a:(S.set l (.lst [.int x])).length=S.length:=ā
 have o:UD S (S.set l (.lst [.int x])++T):=by
  refine⟨by rw[lA];lia,λm b=>?_⟩;rw[è (by rw[a];exact b)];by_cases e:l=m
  .subst e;exact .inr ⟨_,Ā b,zU λe k=>by rw[mS.mp k];exact xC _ _⟩
  .exact .inl (ñ e)
 unfold gI;rw[iP o];have e:(S.set l (.lst [.int x])++T).take ↑2=S.set l (.lst [.int x]):=by rw[<-a];simp
 cases d with
 |loc m=>exact absurd rfl (q m)
 |_=>dsimp only;exact qq (iP h) (qq e rfl)
def VM(a:↑9=n)(c:F (zK rs S).1 (zK rs S).2=#[d,S.set l (.lst [.int x]),1])(h:lo ↑2 d)(b: ∀l,d≠.loc l):zE n F rs S=#[d,S.set l (.lst [.int x]),1]:=GE a (by rw[aN];exact c) h b
theorem lU(ds)(S):FA (.new ds) S=.ok ⟨ds,[]⟩ S:=rfl
theorem lm{α:Type}(f:α->MV)(l:List α)(h:(l.length)<1000000:=by first |lia|(rw[ò];lia)|(rw[č];lia)):((l.map f).length<1000000)=True:=eq_true (by rw[lM0];exact h)
def hX(a:S[l]? =#[ds,2])(hz:↑13<1000000):AQ #[l,1] [.val d] S=#[.non,S.set l (.lst (ds++[d])),1]:=by show MM #[l,1] S (λds=>if ↑13<sizeLine then some _ else none)=_;unfold MM;dsimp only;rw[a];dsimp only;rw[iP (ê hz (fits (à _)))]
theorem kO(a:S[l]? =#[ds,2]):gU #[l,1] S=true:=by unfold gU;rw[fE a];rfl
def Np(a:S[l]? =#[ds,2])(b:WZ ↑13 k=some j):NS #[l,1] #[k,5] d ρ S=.ok ρ (S.set l (.lst (ds.set j d))):=by unfold NS;dsimp only;rw[a];dsimp only;rw[b]
def get_set{S:Sto}(h:S[l]? =some o):(S.set l o')[l]? =some o':=Ā (gS.mp h).1
def xK{S:Sto}(h:l≠m):(S.set l o')[m]? =S[m]? :=ñ h
def GF(a:S[l]? =#[ds,2]):wX [#[l,1]] S=.ok #[ds,6] S:=by show(match wN S _ with |some ds=>R.ok _ S|none=>.no)=_;rw[fE a]
theorem sN(ds)(S):kE [#[ds,6]] S=.ok #[↑13,5] S:=rfl
theorem pp30(S):QF #[10,5] #[30,5] S=.ok #[10 ^ 30,5] S:=rfl
def Vh(h:Rx 0 b)(a)(S):tU #[a,5] #[b,5] S=.ok #[a / b,5] S:=iP h
theorem VN(b:S[l]? =#[[.int x],2])(k:0<n)(j: ∀ a  S ,tU #[a,5] #[n,5] S=.ok #[a / n,5] S):zC [.loc l,.int n] S=.ok #[x % n,5] (S.set l (.lst [.int (x / n)])):=by
 have c:qW [MV.int x] 0=some _:=rfl;show zN _=_;refine zY (zB (ρ':=[#[l],#[n,0],#[x % n,0]]) (S':=S) ?_ (zB (ρ':=[#[l],#[n,0],some _]) ?_ rfl))
 .unfold mX;exists 7,mE b c,mod_lit k
 .unfold mY;exists 7,mE b c,j,(λm o d S=>rfl),Np b rfl
def VO(b:S[l]? =#[[.int x],2])(j:0<n)(c: ∀ a  S ,tU #[a,5] #[n,5] S=.ok #[a / n,5] S):zE 2 zC [#[l,1],#[n,5]] S=.ok #[x % n,5] (S.set l (.lst [.int (x / n)])):=VM rfl (VN b j c) (xC _ _) (λl=>by simp)
def AB(b:S[l]? =#[[.int x],2])(a:0<n)(c:n<1073741824):zE 2 zC [#[l,1],#[n,5]] S=.ok #[x % n,5] (S.set l (.lst [.int (x / n)])):=VO b a (rD a c)
theorem LE(c k)(s:0<=k/\k<100000)(S): ∃n,0<=n/\zE 2 wA [#[c,5],#[k,5]] S=.ok #[n,5] S:=by
 have hs:zH KW [.int c,.int k]=[some _,#[k,0],none]:=rfl;have a:0<=k/\k<4294967296:=⟨s.1,by omega⟩
 have o:eM [#[c,0],#[k,0],none] S=#[[#[c,0],#[k,0],#[(c % 2147483647+7919 * k * k+101 * k+11) % 2147483647,0]],S,0]:=by unfold eM;exists 7,mod_lit ↑4,mul_31 a
 have q:0<=(c % 2147483647+7919 * k * k+101 * k+11) % 2147483647:=eN _ ↑4;have u:(c % 2147483647+7919 * k * k+101 * k+11) % 2147483647<2147483647:=eL _ ↑4;generalize (c % 2147483647+7919 * k * k+101 * k+11) % 2147483647=m at q u o;have j:eO [#[c,0],#[k,0],#[m,0]] S=#[[#[c,0],#[k,0],#[(m * m+48271 * m+13) % 2147483647,0]],S,0]:=by unfold eO;exists 7,mod_lit ↑4,mul_31 ⟨q,by omega⟩
 have b:0<=(m * m+48271 * m+13) % 2147483647:=eN _ ↑4;have v:(m * m+48271 * m+13) % 2147483647<2147483647:=eL _ ↑4;generalize (m * m+48271 * m+13) % 2147483647=p at b v j;have w:eP [#[c,0],#[k,0],#[p,0]] S=.ok (.ret #[(p * p+69621 * p+7) % 2147483629,5]) S:=by unfold eP;exists 7,mod_lit ↑4,mul_31 ⟨b,by omega⟩
 refine⟨(p * p+69621 * p+7) % 2147483629,eN _ ↑4,eS rfl ?_ (xC _ _) (λl=>by simp)⟩;show wA [.int c,.int k] S=_;unfold wA fnJ CN;rw[hs,dW o,dW j,w];rfl
theorem EF(c k)(E:0<=k/\k<100)(S): ∃t,zE 2 yP [#[c,5],#[k,5]] S=#[[.int t],S,2]:=by
 have hs:zH HE [.int c,.int k]=[some _,#[k,0],none,none]:=rfl;have s:dH [#[c,0],#[k,0],none,none] S=if decide (c % 2=0)=true then .ok (.ret (.new [.int (c / 2)])) S else #[[#[c,0],#[k,0],none,none],S,0]:=by unfold dH;exists 7,mod_lit ↑4,rD ↑4 ↑4
 have o: ∀t,yP [.int c,.int k] S=.ok _ S-> ∃t,zE 2 yP [#[c,5],#[k,5]] S=#[[.int t],S,2]:=λt h=>⟨t,fC rfl (by rw[aN];exact h) (zU λe F=>by rw[mS.mp F];exact xC _ _)⟩
 cases y:decide (c % 2=0)with
 |true=>
  rw[y,iP rfl]at s;refine o (c / 2) ?_;unfold yP fnJ lI;refine qq hs (qq (xA s) ?_);rfl
 |false=>
  rw[y,iN0 xF0]at s;have A:mZ [#[c,0],#[k,0],none,none] S=#[[#[c,0],#[k,0],#[0,0],none],S,0]:=rfl
  obtain⟨B,m,e,t,b,a,u⟩:=fD (L:=(List.range 6).map λk=>MV.int _) (gf:=yG 3) (body:=dG)
   (λi w m=> ∃(t:Int)(b:R0),w=[#[c,0],#[k,0],#[t,0],b]/\m=S) (λi d hi w q ⟨t,b,a,v⟩=>by subst a v;refine(mM0.mp (ë hi)).a λj G I=>?_;subst I;rw[ú]at G;refine(LE (c / 2) (100+6 * k+(j:Nat)) ⟨by lia,by lia⟩ q).a λn _ D=>?_;refine⟨[#[c,0],#[k,0],#[t * 2147483629+n,0],#[(j:Nat),0]],q,?_,yT _,_,_,rfl,rfl⟩;rw[show yG 3 _ [#[c,0],#[k,0],#[t,0],b] q=.ok [#[c,0],#[k,0],#[t,0],some _] q from rfl,aV];unfold dG nW;exists 7,Bb ↑4,rD ↑4 ↑4,mul_31 ⟨E.1,by lia⟩,D) (Zy _ _ rfl rfl)
  subst a u;have C:dI [#[c,0],#[k,0],#[0,0],none] m=#[[#[c,0],#[k,0],#[t,0],b],m,0]:=by unfold dI;simp? [cH (j:=6) ↑4];exact e
  have H:dL [#[c,0],#[k,0],#[t,0],b] m=.ok (.ret (.new [.int t])) m:=by unfold dL;exists 7,rfl
  refine o t ?_;unfold yP fnJ lI;rw[hs,dW s,dW A,dW C,H];rfl
mutual
def pd:MV->Bool
 |.int _=>true
 |.str _=>true
 |.tup ds=>Cb ds
 |_=>false
def Cb:List MV->Bool
 |[]=>true
 |d::ds=>pd d&&Cb ds
end
mutual
def LZ:MV->Nat
 |.tup ds=>GH ds+1
 |_=>0
def GH:List MV->Nat
 |[]=>0
 |d::ds=>max (LZ d) (GH ds)
end
def LF(ds):pd (.tup ds)=Cb ds:=by rw[pd]
def qT(d)(ds):Cb (d::ds)=(pd d&&Cb ds):=by rw[Cb]
def EG(ds):LZ (.tup ds)=GH ds+1:=by rw[LZ]
def qU(d)(ds):GH (d::ds)=max (LZ d) (GH ds):=by rw[GH]
def LG:GH []=0:=by rw[GH]
def RJ(i):LZ (.int i)=0:=by simp[LZ]
theorem RK: ∀{ds},(∀d∈ds,pd d=true)->Cb ds=true
 |[],_=>(by rw[Cb])
 |d::ds,h=>by rw[qT,h d mF0,RK λe j=>h e (mO _ j)];rfl
theorem RL: ∀{ds},Cb ds=true-> ∀d∈ds,pd d=true
 |[],_,d,h=>by simp at h
 |e::ds,hp,d,h=>by
  rw[qT,aE]at hp;rcases mC.mp h with rfl|h
  .exact hp.1
  .exact RL hp.2 d h
theorem RM: ∀{ds}{n},(∀d∈ds,LZ d<=n)->GH ds<=n
 |[],n,_=>by rw[LG];exact zero_le _
 |d::ds,n,h=>by
  rw[qU];have j:=h d mF0;have b:=RM λe a=>h e (mO _ a)
  lia
theorem VR: ∀{ds}, ∀d∈ds,LZ d<=GH ds
 |[],d,h=>by simp at h
 |e::ds,d,h=>by
  rcases mC.mp h with rfl|h
  .exact Nat.le_max_left _ _
  .exact ì (VR d h) (Nat.le_max_right _ _)
def VS(h:pd d=true):(∃i,d=.int i)\/(∃x,d=.str x)\/ ∃ds,d=.tup ds/\Cb ds=true:=by
 cases d with
 |int i=>exact .inl ⟨i,rfl⟩
 |str x=>exact .inr (.inl ⟨x,rfl⟩)
 |tup ds=>exact .inr (.inr ⟨ds,rfl,by rw[<-LF];exact h⟩)
 |_=>rw[pd]at h<;>first |cases h|(intros;simp)
def dec_is[Decidable p][Decidable q](h:p↔q):decide p=decide q:=by
 by_cases a:q
 .rw[dT0 a,dT0 (h.mpr a)]
 .rw[dF0 a,dF0 λz=>a (h.mp z)]
theorem EH: ∀{ds es},(∀d∈ds, ∀f∈es,e d f=some (decide (d=f)))-> ∃bs,HQ e ds es=some bs/\(bs.all id&&↑13==es.length)=decide (ds=es)
 |[],[],_=>⟨[],rfl,by simp⟩
 |[],_::_,_=>⟨[],rfl,by simp⟩
 |_::_,[],_=>⟨[],rfl,by simp⟩
 |d::ds,f::es,h=>by
  refine(EH λa k b o=>h a (mO _ k) b (mO _ o)).a λbs m j=>?_;refine⟨decide (d=f)::bs,?_,?_⟩
  .unfold HQ;rw[h d mF0 f mF0,m];rfl
  .by_cases c:d=f
   .subst c;rw[List.all_cons,dT0 rfl];simp only[id,Bool.true_and,lC0];rw[show(↑13+1==es.length+1)=(↑13==es.length) by simp,j];exact dec_is (by simp)
   .rw[dF0 c];rw[dF0 (λz=>c (List.cons.inj z).1)];rfl
theorem iE: ∀ n {d e},pd d=true->pd e=true->LZ d<n->eqv S n d e=some (decide (d=e))
 |0,d,e,_,_,h=>by lia
 |n+1,d,e,hd,he,h=>by
  rcases VS hd with⟨i,rfl⟩|⟨x,rfl⟩|⟨ds,rfl,pds⟩<;>rcases VS he with⟨j,rfl⟩|⟨y,rfl⟩|⟨es,rfl,pes⟩
  .rw[IC];exact congrArg some (dec_is (by simp))
  .rw[F9,dF0 (by simp)]
  .rw[dF0 (by simp)];rfl
  .rw[G1,dF0 (by simp)]
  .rw[Ba];exact congrArg some (dec_is (by simp))
  .rw[dF0 (by simp)];rfl
  .rw[dF0 (by simp)];rfl
  .rw[dF0 (by simp)];rfl
  .rw[EG]at h;obtain⟨bs,m,k⟩:=EH λa c b o=>iE n (RL pds a c) (RL pes b o) (by have:=VR a c;lia);show((HQ _ ds es).map λbs=>bs.all id&&↑13==es.length)=_;rw[m];show some (bs.all id&&↑13==es.length)=_;rw[k];exact congrArg some (dec_is (by simp))
theorem Cc(a:pd d=true)(b:pd e=true)(h:LZ d<40):iQ (.val d) (.val e) S=#[.bl (decide (d=e)),S,1]:=XS (iE _ a b (by unfold zL;lia))
theorem EI(a:pd d=true): ∀{j},(∀y∈j,pd y=true/\LZ y<40)->UF S zL d j=some (j.map λy=>decide (y=d))
 |[],_=>rfl
 |y::j,h=>by have k:=h y mF0;unfold UF;rw[iE zL k.1 a (by unfold zL;exact k.2),EI a λz b=>h z (mO _ b)];rfl
noncomputable abbrev SN(S:Sto)(x:Int):Sto:=S++[MO.lst [.int x]]
def Cd(S)(x):(SN S x)[↑2]? =#[[.int x],2]:=by simp
def RN(S)(x y):List.set (SN S x) ↑2 (MO.lst [.int y])=SN S y:=by simp
def sO(S)(x)(b:0<n)(a:n<1073741824):zE 2 zC [#[↑2,1],#[n,5]] (SN S x)=.ok #[x % n,5] (SN S (x / n)):=by have:=AB (Cd S x) b a;rw[RN]at this;exact this
theorem bX(x){n:Nat}(h:0<n): ∃t:Nat,x % (n:Int)=t/\t<n:=by have b:0<=x % (n:Int):=eN _ #[];have c:x % _<n:=eL _ #[];obtain⟨t,a⟩:=ĵ b;exact⟨t,a,by lia⟩
theorem Ce(neg)(p)(l)(S):MK neg p #[l,1] S=rC neg p #[l,1] S:=by
 unfold MK;split
 .rename_i h;cases h
 .rfl
def RO(neg)(j:S[l]? =#[ys,2])(c:pd d=true)(h: ∀y∈ys,pd y=true/\LZ y<40):MK neg (.val d) #[l,1] S=#[.bl (if neg=true then !decide (d∈ys)else decide (d∈ys)),S,1]:=by
 have b:itemsOf S #[l,1]=some ys:=by unfold itemsOf;exact fE j
 rw[Ce];unfold rC;rw[b];dsimp only;rw[EI c h];dsimp only
 have k:(ys.map λy=>decide (y=d)).any id=decide (d∈ys):=by
  rw[List.any_map];by_cases a:d∈ys
  .rw[dT0 a,Ě];exact⟨d,a,by simp⟩
  .rw[dF0 a];rw[ŀ];intro y m;simp only[Function.comp,id,é];rintro rfl;exact a m
 rw[k]
theorem YU(h:S[l]? =#[ds,2]):iQ #[l,1] (.new []) S=#[.bl ds.isEmpty,S,1]:=by
 have a:MG S #[l,1]=some (.ls ds):=by show(wN S _).map Vw.ls=_;rw[fE h];rfl
 unfold iQ BS;rw[a];cases ds<;>rfl
theorem AC(ds:List α)(j:Nat):jA ds none (some  j )=ds.take j:=by
 unfold jA;rw[HT.sIx_nat,show HT.sIx ↑13 0 none=0 from rfl,List.drop_zero,Nat.sub_zero];by_cases h:j<=↑13
 .rw[min_eq_left h]
 .rw[Nat.min_eq_right #[],Ŕ (à _),Ŕ #[]]
theorem GI(ds:List α)(j:Nat):jA ds (some  j ) none=ds.drop j:=by
 unfold jA;rw[HT.sIx_nat];by_cases h:j<=↑13
 .rw[min_eq_left h,Ŕ (by rw[č];exact à _)]
 .rw[Nat.min_eq_right #[],List.drop_of_length_le (à _),List.drop_of_length_le #[],List.take_nil]
noncomputable abbrev Wl(S:Sto)(l:Nat)(x:Int):Sto:=S.set l (.lst [.int x])
def Nq(h:l<↑2)(x):(Wl S l x)[l]? =#[[.int x],2]:=Ā h
def Ya(h:l≠m)(x):(Wl S l x)[m]? =S[m]? :=ñ h
def Nr(S)(l)(x y):(Wl S l x).set l (.lst [.int y])=Wl S l y:=ě ..
def RP(S)(l)(x):(Wl S l x).length=S.length:=ā ..
def Cf(S)(x):S++[.lst [.int x]]=Wl (S++[.lst []]) ↑2 x:=by simp[Wl]
def GK(h:l<↑2)(x)(T):Wl S l x++T=Wl (S++T) l x:=by unfold Wl;rw[set_append_left _ _ h]
theorem Nt(h:l<↑2)(x)(o o'):(Wl (S++[o]) l x).set ↑2 o'=Wl (S++[o']) l x:=by unfold Wl;rw[set_append_left _ _ h,set_append_left _ _ h];rw[List.set_append_right _ _ (by rw[ā];exact à _),ā,sub_self];rfl
def IM(h:l<↑2)(x)(o):(Wl (S++[o]) l x)[↑2]? =some o:=by rw[Ya (ä h)];simp
def Vk(b:↑9=n)(a:F (zK rs (Wl S l x)).1 (zK rs (Wl S l x)).2=#[d,Wl S l y++T,1])(h:lo ↑2 d)(c: ∀l,d≠.loc l):zE n F rs (Wl S l x)=#[d,Wl S l y,1]:=by rw[<-Nr S l x y]at a ⊢;exact GE b a (by rw[RP];exact h) c
def EK(b:↑9=n)(j:zK rs S=(as,S2))(k:F as S2=.ok r (S++T))(c:r=.new ds\/ ∃l,r=#[l,1]/\↑2<=l/\(S++T)[l]? =#[ds,2])(h:CY ↑2 ds):zE n F rs S=#[ds,S,2]:=by
 have a:F (zK rs S).1 (zK rs S).2=.ok r (S++T):=by rw[j];exact k
 rcases c with rfl|⟨l,rfl,h1,h2⟩
 .exact fC b a h
 .exact UI b a h1 h2 h
def uZ(a:l<↑2)(c:0<n)(b:n<1073741824):zE 2 zC [#[l,1],#[n,5]] (Wl S l x)=.ok #[x % n,5] (Wl S l (x / n)):=by have:=AB (Nq a x) c b;rw[Nr]at this;exact this
noncomputable def abc:List Nat:=[97,98,99,100,101,102,103,104,105,106,107,108,109,110,111,112,113,114,115,116,117,118,119,120,121,122]
def aX(h:Vl d):pd d=true/\LZ d=0:=by
 rcases h.cases with⟨i,rfl,_⟩|⟨x,rfl,_⟩
 .exact⟨(by rw[pd]),RJ i⟩
 .exact⟨(by rw[pd]),(by simp[LZ])⟩
theorem len_str(h:x.length<=1000)(S):kE [.val (.str x)] S=.ok #[x.length,5] S:=iP (fits #[])
theorem adds(h:x.length+y.length<=1000)(S):yF (.val (.str x)) (.val (.str y)) S=#[.str (x++y),S,1]:=add_str (fits #[])
def LH(x)(r):sY [] (x::r)=x++sY [] r:=by
 cases r with
 |nil=>show x=x++[];rw[aN]
 |cons y r=>show x++[]++sY [] _=_;rw[aN]
theorem Cg: ∀{ds},(∀d∈ds, ∃c,d=MV.str [c]/\97<=c/\c<=122)-> ∃zs,rG ds=some zs/\zs.length=↑13/\(∀z∈zs,z.length=1)/\(sY [] zs).length=↑13/\ ∀c∈sY [] zs,97<=c/\c<=122
 |[],_=>⟨[],rfl,rfl,(by simp),rfl,(by intro c j;simp[sY]at j)⟩
 |d::ds,h=>by
  refine(h d mF0).a λc v j=>?_;subst v;refine(Cg λe a=>h e (mO _ a)).elim λzs u=>u.h λq k s m o=>?_;refine⟨[c]::zs,?_,(by rw[lC0,lC0,k]),(λz b=>?_),(by rw[LH,lA,m];simp[Nat.add_comm]),(λe a=>?_)⟩
  .unfold rG;rw[q];rfl
  .rcases mC.mp b with rfl|b
   .rfl
   .exact s z b
  .rw[LH]at a;rcases ç.mp a with a|a
   .rw[mS.mp a];exact j
   .exact o e a
theorem Vm(h: ∀d∈ds, ∃c,d=MV.str [c]/\97<=c/\c<=122)(q:↑13<=8)(S): ∃w:List Nat,w.length=↑13/\(∀c∈w,97<=c/\c<=122)/\NY (.val (.str [])) [.new ds] S=#[.str w,S,1]:=by refine(Cg h).elim λzs u=>u.h λk o m a b=>?_;refine ZB _ a b ?_;unfold NY;dsimp only;rw[show wN S _=some ds from rfl];dsimp only;rw[k];dsimp only;rw[iP ⟨by show 0<=100;decide,by lia,λz j=>by rw[m z j];decide⟩]
noncomputable def P9:MV->Bool
 |.str _=>true
 |_=>false
abbrev W7(l lp:Nat)(c j a b x6:R0):Rho:=[#[l],#[lp],c,j,a,b,x6]
def Vn{lp:Nat}(O:l<↑2)(M:l≠lp)(W: ∀d∈vs,Vl d)(af:(vs.length)<1000)(hP:S[lp]? =#[vs,2]):
  ∃y x',Nm y/\zE 2 lL [#[l,1],#[lp,1]] (Wl S l x)=#[.str y,Wl S l x',1]:=by
 have E:(Wl S l x)[lp]? =#[vs,2]:=by rw[Ya M];exact hP
 have o:=yL (f:=id) (g:=id) (p:=P9) (ds:=vs) (gf:=yG 0) (cf:=jQ) (ef:=nY) (ρb:=[none]) (xS E) λd s=>(ZB ([some d]) rfl (by unfold jQ;rcases (W d s).cases with⟨i,rfl,_⟩|⟨y,rfl,_⟩<;>(simp? [aV];rfl)) rfl)
 rw[List.map_id,List.map_id]at o
 have Q: ∀d∈vs.filter P9, ∃q,d=.str q/\Nm q:=λd s=>by
  have Y:=æ.mp s;rcases (W d Y.1).cases with⟨i,rfl,_⟩|⟨y,rfl,L⟩
  .have:=Y.2;cases this
  .exact⟨y,rfl,L⟩
 generalize vs.filter P9=ns at Q o;have m:l<(S++[MO.lst ns]).length:=by rw[lA];lia
 have F: ∀z,(Wl (S++[MO.lst ns]) l z)[↑2]? =#[ns,2]:=λz=>IM O z _;have ae:0<=x % 8:=eN _ ↑4;have ag:x % 8<8:=eL _ ↑4;refine(EE (gf:=yG 0) (cf:=nZ) (ef:=jR) (ρb:=[none,#[l],#[abc,4]]) (gs:=[]) (P:=λy=> ∃c,y=MV.str [c]/\97<=c/\c<=122) (I:=λS'=> ∃z,S'=Wl (S++[.lst ns]) l z) (ds:=(List.range (1+x % 8).toNat).map λk=>MV.int (k:Nat)) (S:=Wl (S++[.lst ns]) l (x / 8)) (λd s S1 ⟨z,hz⟩=>by subst hz;obtain⟨k,Z⟩:=cO (xs:=abc) (i:=z % 26) (eN _ ↑4) (by have:=eL z (show(0:Int)<26 by decide);show z % 26<26;exact this);refine⟨[some d,#[l],#[abc,4]],.str [k],Wl (S++[.lst ns]) l (z / 26),rfl,rfl,?_,⟨k,rfl,cP (P:=λk=>97<=k/\k<=122) ↑4 Z⟩,⟨_,rfl⟩,yT _⟩;unfold jR;exists 7,uZ m (show(0:Int)<26 by decide) ↑4,ix_str (show abc.length<=sizeLine by rw[ý];decide) Z) ⟨_,rfl⟩).k λout S' e V N J=>?_;obtain ⟨b,rfl⟩:=V;rw[lM0,ò]at N;refine(Vm J (by lia) (Wl (S++[.lst ns]) l b)).c λw aa Y2 zDC=>?_;have v:Nm w:=⟨by lia,by lia,Y2⟩
 have K: ∀{y z},Nm y->zF jE (zF jF (zF jG jH)) (W7 l lp #[abc,4] #[↑2] #[w,4] #[b % 3,0] none) (Wl (S++[.lst ns]) l (b / 3))=.ok (.ret (.val (.str y))) (Wl (S++[.lst ns]) l z)-> ∃y x',Nm y/\zE 2 lL [#[l,1],#[lp,1]] (Wl S l x)=#[.str y,Wl S l x',1]:=λ{y z} L h=>by
  refine Zy y z L (Vk (T:=[.lst ns]) rfl ?_ (mB _ _) (λl=>by simp));rw[GK O];show zN (lK (W7 l lp none none none none none) (Wl S l x))=_;refine zY ?_;unfold lK
  refine zB (ρ':=W7 l lp #[abc,4] none none none none) (S':=Wl S l x) rfl (zB (by
   unfold oA;simp? [wR E,show((vs.length)<1000000)=True from eq_true (by lia)];erw [o];simp? [RP,GK O];rfl) (zB (by
   unfold oB;simp? [(λx S=>rfl),uZ m (show(0:Int)<8 by decide) ↑4,cH (S:=Wl (S++[.lst ns]) l (x / 8)) (j:=1+x % 8) (by lia),lm (λk=>MV.int (k:Nat)) (List.range (1+x % 8).toNat)];erw [e];simp? [zDC];rfl) (zB (by
   unfold oE;simp? [uZ m (show(0:Int)<3 by decide) ↑4]) h)))
 have G:jE (W7 l lp #[abc,4] #[↑2] #[w,4] #[b % 3,0] none) (Wl (S++[.lst ns]) l (b / 3))=if(decide (b % 3=0) || ns.isEmpty)=true then .ok (.ret (.val (.str w))) (Wl (S++[.lst ns]) l (b / 3))else #[W7 l lp #[abc,4] #[↑2] #[w,4] #[b % 3,0] none,Wl (S++[.lst ns]) l (b / 3),0]:=by unfold jE;cases A:decide (b % 3=0)<;>cases hn:ns.isEmpty<;>(simp? [A,YU (F _),hn];rfl)
 cases A:(decide (b % 3=0) || ns.isEmpty)with
 |true=>
  rw[A,iP rfl]at G;exact K v (xA G)
 |false=>
  rw[A,iN0 xF0]at G;have D:ns≠[]:=λz=>by rw[z]at A;simp at A
  obtain⟨d,s⟩:=Ta (xs:=ns) (i:= -1) (by have:=ō.mpr D;lia) (by lia);refine(cP (P:=λd=> ∃q,d=MV.str q/\Nm q) Q s).a λq ac C=>?_;subst ac;have q1:=C.1;have q2:=C.2.1;have w1:=v.1;have w2:=v.2.1;have u: ∀z,yE #[↑2,1] #[-1,5] (Wl (S++[MO.lst ns]) l z)=#[.str q,Wl (S++[MO.lst ns]) l z,1]:=λz=>mE (F z) s;have X: ∀S,kE [.val (.str q)] S=.ok #[q.length,5] S:=len_str (by lia);have B: ∀S,Ts [#[8,5],#[(q.length:Int)+1,5]] S=.ok #[(min 8 (q.length+1):Nat),5] S:=λS=>by show R.ok (Er.val (.int (if(q.length:Int)+1<8 then(q.length:Int)+1 else 8))) S=_;congr 3;split<;>lia
  have H:jF (W7 l lp #[abc,4] #[↑2] #[w,4] #[b % 3,0] none) (Wl (S++[.lst ns]) l (b / 3))=if decide (b % 3=1)=true then .ok (.ret (.val (.str ((q++w).take (min 8 (q.length+1)))))) (Wl (S++[.lst ns]) l (b / 3))else #[W7 l lp #[abc,4] #[↑2] #[w,4] #[b % 3,0] none,Wl (S++[.lst ns]) l (b / 3),0]:=by unfold jF;simp? [u,adds (x:=q) (y:=w) (by lia),X,B,cut_str (S:=Wl (S++[MO.lst ns]) l (b / 3)) (fits (show(q++w).length<=1000000 by rw[lA];lia)),AC]
  cases U:decide (b % 3=1)with
  |true=>
   rw[U,iP rfl]at H;refine K (y:=(q++w).take (min 8 (q.length+1))) ⟨?_,?_,λc o=>?_⟩ (zB G (xA H))
   .rw[lT,lA];lia
   .rw[lT];lia
   .rcases ç.mp (ĳ o)with h|h
    .exact C.2.2 c h
    .exact Y2 c h
  |false=>
   rw[U,iN0 xF0]at H;refine(bX (b / 3) (n:=q.length) (by lia)).a λt ht ab=>?_;have e7:jG (W7 l lp #[abc,4] #[↑2] #[w,4] #[b % 3,0] none) (Wl (S++[.lst ns]) l (b / 3))=#[W7 l lp #[abc,4] #[↑2] #[w,4] #[b % 3,0] #[(t:Nat),0],Wl (S++[.lst ns]) l (b / 3 / (q.length:Int)),0]:=by unfold jG;simp? [u,X,uZ (x:=b / 3) m (show(0:Int)<(q.length:Int) by lia) (by lia),ht]
   obtain⟨c,o⟩:=cO (xs:=w) (i:=0) ↑4 (by lia);have e8:jH (W7 l lp #[abc,4] #[↑2] #[w,4] #[b % 3,0] #[(t:Nat),0]) (Wl (S++[.lst ns]) l (b / 3 / (q.length:Int)))=.ok (.ret (.val (.str (q.take t++[c]++q.drop (t+1))))) (Wl (S++[.lst ns]) l (b / 3 / (q.length:Int))):=by have c2:jA q (some ((t:Int)+1)) none=q.drop (t+1):=GI q (t+1);unfold jH;simp? [u,cut_str (fits (show q.length<=1000000 by lia)),AC,c2,ix_str (S:=Wl (S++[MO.lst ns]) l (b / 3 / (q.length:Int))) (fits (show w.length<=1000000 by lia)) o,adds (x:=q.take t) (y:=[c]) (by refine qq lT (qq lS ?_);lia),adds (x:=q.take t++[c]) (y:=q.drop (t+1)) (by refine qq lA (qq lT (qq č (qq lS ?_)));lia)]
   refine K (y:=q.take t++[c]++q.drop (t+1)) ⟨?_,?_,λa ha=>?_⟩ (zB G (zB H (zB e7 e8)))
   .simp only[lA,lS];lia
   .simp only[lA,lS,lT,č];lia
   .rcases ç.mp ha with h|h
    .rcases ç.mp h with h|h
     .exact C.2.2 a (ĳ h)
     .rw[mS.mp h];exact cP (P:=λk=>97<=k/\k<=122) Y2 o
    .exact C.2.2 a (mem_of_mem_drop h)
noncomputable abbrev PP(c:MV)(l m:Nat)(k w v:R0):Rho:=[some c,#[l],#[m],k,w,v]
section
theorem po3{v:Int}(a:l<↑2)(b:Vl (.int v)): ∃j z,Vl (.int j)/\wH (PP c l m k #[n,0] #[v,0]) (Wl S l x)=#[PP c l m k #[n,0] #[j,0],Wl S l z,0]:=by
 have e:wH (PP c l m k #[n,0] #[v,0]) (Wl S l x)=if decide (n=0)=true then #[PP c l m k #[n,0] #[x % (2 * 10 ^ 30 - 1) - 10 ^ 30+1,0],Wl S l (x / (2 * 10 ^ 30 - 1)),0]else #[PP c l m k #[n,0] #[v,0],Wl S l x,0]:=by unfold wH;simp? [pp30,tV (show -_<(2:Int)/\_<2 ^ 64 by decide),(by have:=VO (Nq a x) (show _<2 * 10 ^ 30 - 1 by decide) (Vh ↑10);rw[Nr]at this;exact this)]
 by_cases h:n=0
 .rw[dT0 h]at e;exact⟨_,_,⟨by lia,by lia⟩,e⟩
 .rw[dF0 h]at e;exact⟨v,x,b,e⟩
def po4{v:MV}(q:l<↑2)(b:l≠m)(B: ∀d∈vs,Vl d)(a:(vs.length)<1000)(w:S[m]? =#[vs,2])(A:Vl v): ∃j z,Vl j/\wI (PP c l m k #[n,0] (some v)) (Wl S l x)=#[PP c l m k #[n,0] (some j),Wl S l z,0]:=by
 refine(Vn (x:=x) q b B a w).d λy z u C=>?_;have e:wI (PP c l m k #[n,0] (some v)) (Wl S l x)=if(decide (n=1) || decide (n=2))=true then #[PP c l m k #[n,0] #[y,4],Wl S l z,0]else #[PP c l m k #[n,0] (some v),Wl S l x,0]:=by unfold wI;cases s:decide (n=1)<;>cases o:decide (n=2)<;>(simp? [s,o,C,fT0,iF];try rfl)
 cases h:(decide (n=1) || decide (n=2))with
 |true=>
  rw[h]at e;exact⟨_,_,show Vl (.str y)from u,e⟩
 |false=>
  rw[h]at e;exact⟨v,x,A,e⟩
theorem Hl(G:l<↑2)(A: ∀d∈vs,Vl d)(P:(vs.length)<100): ∃j Q N z,(∀d∈j,Vl d)/\(j.length)<=(vs.length)+1/\1<=(j.length)/\dM (PP c l ↑2 k w v) (Wl (S++[.lst vs]) l x)=#[PP c l ↑2 k Q N,Wl (S++[.lst j]) l z,0]:=by
 have o:l<(S++[MO.lst vs]).length:=by rw[lA];lia
 have M:0<=x / 4 % 9:=eN _ ↑4;have T:x / 4 % 9<9:=eL _ ↑4;refine(po3 (c:=c) (k:=k) (m:=↑2) (n:=x % 4) (v:=x / 4 % 9 - 4) (x:=x / 4 / 9) o ⟨by lia,by lia⟩).d λO K F I=>?_;refine(po4 (c:=c) (k:=k) (n:=x % 4) (x:=K) (vs:=vs) o (ä G) A #[] (by simp) F).d λC s u L=>?_;have D:(Wl (S++[.lst vs]) l s)[↑2]? =#[vs,2]:=IM G s _;have B:=RO true D (aX u).1 λy H=>⟨(aX (A y H)).1,by rw[(aX (A y H)).2];decide⟩
 obtain⟨q,a,b,d,J⟩: ∃q,(∀d∈q,Vl d)/\q.length<=(vs.length)+1/\1<=q.length/\jS (PP c l ↑2 k #[x % 4,0] (some C)) (Wl (S++[.lst vs]) l s)=.ok _ (Wl (S++[.lst q]) l s):=by
  unfold jS;by_cases h:C∈vs
  .exact⟨vs,A,le_succ _,List.length_pos_of_mem h,(by simp? [B,dT0 h];rfl)⟩
  .exact⟨vs++[C],(λd E=>(ç.mp E).elim (A d) λE=>mS.mp E▸u),(by simp),(by simp),(by simp? [B,dF0 h,kO D,hX D #[],Nt G];rfl)⟩
 exact Zw q _ _ s ⟨a,b,d,(by unfold dM;exact zB (by unfold aB;simp? [uZ o (show(0:Int)<4 by decide) ↑4];rfl) (zB (by unfold aC;simp? [uZ o (show(0:Int)<9 by decide) ↑4]) (zB I (zB L J))))⟩
end
def Yb(vs:Q0):Prop:=1<=(vs.length)/\(vs.length)<=4/\ ∀d∈vs,Vl d
theorem Vo(q)(S): ∃vs,Yb vs/\zE 1 uS [#[q,5]] S=#[vs,S,2]:=by
 obtain⟨t,hw⟩:=EF q 1 ⟨by decide,by decide⟩ S;have a:↑2<(S++[MO.lst []]).length:=by rw[lA];exact ę _
 have N:0<=t % 3:=eN _ ↑4;have O:t % 3<3:=eL _ ↑4;have m:((List.range (2+t % 3).toNat).map λk=>MV.int (k:Nat)).length=(2+t % 3).toNat:=by rw[lM0,ò]
 obtain⟨J,E,e,vs,z,k',u,s,b,D,o,G,F⟩:=fD (L:=(List.range (2+t % 3).toNat).map λk=>MV.int (k:Nat)) (gf:=yG 3) (gs:=[])
  (λi H E=> ∃(vs:Q0)(z:Int)(k' u s:R0),H=PP (.int q) ↑2 (↑2+1) k' u s/\E=Wl (S++[.lst []]++[.lst vs]) ↑2 z/\(∀d∈vs,Vl d)/\(vs.length)<=i/\(i=0\/1<=(vs.length))) (λi d hi H X z0=>by
   refine z0.m λvs z k' u s z0=>?_;refine z0.h λb B o G F=>?_
   subst b B;have P:i<5:=by have:=(gS.mp hi).1;lia
   refine(Hl (c:=.int q) (l:=↑2) (x:=z) (vs:=vs) (k:=some d) (w:=u) (v:=s) a o #[]).p λy U W Q V=>V.e λA K C I=>?_;rw[lA]at I;refine⟨_,_,?_,yT _,y,Q,some d,U,W,rfl,rfl,A,by lia,.inr C⟩;exact I) (Zp ([]) (t / 3) none none none ⟨rfl,rfl,(by simp),à _,.inl rfl⟩)
 subst b D;rw[m]at G F;refine⟨vs,⟨by lia,by lia,o⟩,EK (T:=[.lst [.int z],.lst vs]) rfl rfl ?_ (.inr ⟨↑2+1,rfl,le_succ _,(by refine qq (ð #[]) (qq (show ↑2+1 - ↑2=1 by lia) ?_);rfl)⟩) (zU λd M=>(o d M).lo _)⟩;show zN (lN [#[q,0],none,none,none,none,none] S)=_;rw[show S++[MO.lst [.int z],.lst vs]=Wl _ ↑2 z by rw[<-GK a, <-Cf,aA];rfl];refine zY ?_;unfold lN;exact zB (by unfold oF;simp? [hw];rw[Cf]) (zB (by unfold oG;simp? [RP,GK a];rw[lA]) (zB (by unfold oH;simp? [uZ (show ↑2<(S++[MO.lst []]++[MO.lst []]).length by simp) (show(0:Int)<3 by decide) ↑4,cH (j:=2+t % 3) (by lia)];exact e) (by rfl)))
noncomputable def tbl(p:Int×Int):MV:=.tup [.int p.1,.int p.2]
def Nu(ts:Tk):Prop:=1<=ts.length/\ts.length<=4/\ ∀p∈ts,1<=p.1/\p.1<=4/\0<=p.2/\p.2<=p.1
def Q4(a b c d e)(S):yW [.val a,.val b,.val c,.val d,.val e] S=#[[a,b,c,d,e],S,2]:=nG (by simp)
noncomputable abbrev T6(c:MV)(l m:Nat)(k w y:R0):Rho:=[some c,#[l],#[m],k,w,y]
theorem Nv(o:l<↑2)(C:ts.length<1000):
  ∃p v u z,(1<=p.1/\p.1<=4/\0<=p.2/\p.2<=p.1)/\jT (T6 c l ↑2 k w y) (Wl (S++[.lst (ts.map tbl)]) l x)=#[T6 c l ↑2 k v u,Wl (S++[.lst ((ts++[p]).map tbl)]) l z,0]:=by
 have b:l<(S++[MO.lst (ts.map tbl)]).length:=by rw[lA];lia
 have B:0<=x % 4:=eN _ ↑4;have E:x % 4<4:=eL _ ↑4;have q:(0:Int)<1+x % 4+1:=by omega
 have D:0<=x / 4 % (1+x % 4+1):=eN _ (by omega);have F:x / 4 % _<1+x % 4+1:=eL _ q;obtain⟨d,m⟩:=cO (xs:=[MV.int 0,.int 1,.int 1,.int (1+x % 4),.int _]) (i:=x / 4 / (1+x % 4+1) % 5) (eN _ ↑4) (eL _ ↑4);obtain⟨a,rfl,A⟩: ∃a,d=.int a/\0<=a/\a<=1+x % 4:=cP (P:=λd=> ∃a,d=MV.int a/\0<=a/\a<=1+x % 4) (λe s=>by simp only[mC,nM,or_false]at s;rcases s with rfl|rfl|rfl|rfl|rfl<;>exact ZB _ rfl (by omega) (by omega)) m;have j:=IM o (x / 4 / (1+x % 4+1) / 5) (.lst (ts.map tbl));refine Zw (1+x % 4,a) (#[1+x % 4,0]) (#[a,0]) (x / 4 / (1+x % 4+1) / 5) ⟨⟨by show 1<=1+x % 4;omega,by show 1+x % 4<=4;omega,A⟩,?_⟩;unfold jT;refine zB (by unfold bS;simp? [uZ b (show(0:Int)<4 by decide) ↑4];rfl) (zB (by unfold bT;simp? [uZ (x:=x / 4) b q (by omega),Q4,uZ b (show(0:Int)<5 by decide) ↑4,BU m];rfl) ?_);unfold bU;simp? [kO j,hX j (by rw[lM0];lia),Nt o];rw[Ă];rfl
def Nx{ts:Tk}(n):lo n (.tup (ts.map tbl)):=yD (zU λd b=>by refine(mM0.mp b).a λp _ j=>?_;subst j;exact yD (zU λe a=>by simp at a;rcases a with rfl|rfl<;>exact xC _ _))
theorem Hm(q)(S): ∃ts,Nu ts/\zE 1 oI [#[q,5]] S=.ok #[ts.map tbl,6] S:=by
 obtain⟨t,hw⟩:=EF q 2 ⟨by decide,by decide⟩ S;have a:↑2<(S++[MO.lst []]).length:=by rw[lA];exact ę _
 have I:0<=t % 4:=eN _ ↑4;have K:t % 4<4:=eL _ ↑4;have m:((List.range (1+t % 4).toNat).map λk=>MV.int (k:Nat)).length=(1+t % 4).toNat:=by rw[lM0,ò]
 obtain⟨G,D,e,ts,z,k',u,s,b,C,B,A⟩:=fD (L:=(List.range (1+t % 4).toNat).map λk=>MV.int (k:Nat)) (gf:=yG 3) (gs:=[])
  (λi E D=> ∃(ts:Tk)(z:Int)(k' u s:R0),E=T6 (.int q) ↑2 (↑2+1) k' u s/\D=Wl (S++[.lst []]++[.lst (ts.map tbl)]) ↑2 z/\(∀p∈ts,1<=p.1/\p.1<=4/\0<=p.2/\p.2<=p.1)/\ts.length=i) (λi d hi E Q z0=>by
   refine z0.m λts z k' u s z0=>?_;refine z0.e λb v B A=>?_
   subst b v;have M:i<5:=by have:=(gS.mp hi).1;omega
   obtain⟨p,P,O,N,J,F⟩:=Nv (x:=z) (c:=.int q) (ts:=ts) (w:=u) (y:=s) a #[];rw[lA]at F;refine⟨_,_,?_,yT _,ts++[p],N,some d,P,O,rfl,rfl,λq H=>?_,by refine qq lA (qq A ?_);rfl⟩
   .exact F
   .rcases ç.mp H with h|h
    .exact B q h
    .rw[mS.mp h];exact J) (Zp ([]) (t / 4) none none none ⟨rfl,rfl,(by simp),rfl⟩)
 subst b C;rw[m]at A;refine⟨ts,⟨by lia,by lia,B⟩,zX (T:=[.lst [.int z],.lst (ts.map tbl)]) rfl ?_ (Nx _) (λl=>by simp)⟩;show zN (dN [#[q,0],none,none,none,none,none] S)=_;refine qq (show S++[MO.lst [.int z],.lst (ts.map tbl)]=Wl _ ↑2 z by rw[<-GK a, <-Cf,aA];rfl) ?_;have o:=IM a z (.lst (ts.map tbl));rw[lA]at o;refine zY ?_;unfold dN
 exact zB (by unfold aD;simp? [hw];rw[Cf]) (zB (by unfold aF;simp? [RP,GK a];rw[lA]) (zB (by
  unfold aG;simp? [uZ (show ↑2<(S++[MO.lst []]++[MO.lst []]).length by simp) (show(0:Int)<4 by decide) ↑4,cH (j:=1+t % 4) (by lia)];exact e) (by
  unfold aH;exists 7,GF o)))
noncomputable def zQ(r:Nat×List MV):MV:=.tup [.int r.1,.tup r.2]
def iG(ts:Tk)(r:Nat×List MV):Prop:= ∃p,ts[r.1]? =some p/\(r.2.length:Int)=p.1/\ ∀d∈r.2,Vl d
theorem Ny(h:iG ts r):pd (zQ r)=true/\LZ (zQ r)<=2:=by
 refine h.c λp _ _ b=>?_;have c:=RK λd a=>(aX (b d a)).1;have j:=RM λd a=>by rw[(aX (b d a)).2];exact à _
 unfold zQ;refine⟨by rw[LF,qT,qT,LF,c];rfl,?_⟩;rw[EG,qU,qU,LG,RJ,EG]
 lia
theorem Nz(h:zQ r=zQ q):r=q:=by
 injection h with h
 injection h with h1 h2
 injection h2 with h2 _
 injection h2 with h2
 exact Prod.ext #[] h2
def YV(h:iG ts r)(n):lo n (zQ r):=by
 refine h.c λp _ _ b=>?_;refine yD (zU λd a=>?_);simp only[mC,nM,or_false]at a;rcases a with rfl|rfl
 .exact xC _ _
 .exact yD (zU λe c=>(b e c).lo n)
theorem Oa{ts:Tk}{t:Nat}(h:ts[t]? =some p):qW (ts.map tbl)  t =some (tbl p):=by have a:=(gS.mp h).1;unfold qW WZ;rw[iP #[],iP (by rw[lM0];lia)];show _[(t:Int).toNat]? =_;rw[Ē,î,h];rfl
def SqM(S:Sto)(m:MV)(ds:Q0):Prop:=m=.tup ds\/ ∃l,m=.loc l/\S[l]? =#[ds,2]
def SqM.ix(h:SqM S m ds)(a:qW ds i=some d):yE (.val m) #[i,5] S=#[d,S,1]:=by
 rcases h with rfl|⟨l,rfl,hS⟩
 .exact ix_tup a
 .exact mE hS a
def SqM.len(h:SqM S m ds):kE [.val m] S=.ok #[↑13,5] S:=by
 rcases h with rfl|⟨l,rfl,hS⟩
 .rfl
 .exact rE hS
noncomputable def AS(ts:Tk)(t:Nat):Int:=((ts[t]?).map (·.1)).getD 0
theorem pM(h:ts[t]? =some p):AS ts t=p.1:=by unfold AS;rw[h];rfl
def YW(a:Nu ts)(h:t<ts.length):1<=AS ts t/\AS ts t<=4:=by have:=a.2.2 ts[t] (Ĩ h);rw[pM (gE h)];exact⟨this.1,this.2.1⟩
def RQ(b:t<ts.length)(S): ∃e,yE #[ts.map tbl,6] #[(t:Nat),5] S=#[e,S,1]/\yE (.val e) #[0,5] S=.ok #[AS ts t,5] S:=by have a:=gE b;exact⟨_,ix_tup (Oa a),by rw[pM a];rfl⟩
abbrev R7(lc:Nat)(b:MV)(lp:Nat)(w:Int)(lr:Nat)(a x6:R0):Rho:=[#[lc],some b,#[lp],#[w,0],#[lr],a,x6]
theorem Hn(U:Nu ts){lp:Nat}{rs:V0}(M:Yb vs)(X:S[lp]? =#[vs,2])(G:S[lr]? =#[rs.map zQ,2])
  (hR:(∀r∈rs,iG ts r)) (J:rs.Nodup) (hl:(rs.length:Int)<=w) (h9:w<=900): ∃(N:R0)(u:V0),jI (R7 lc (.tup (ts.map tbl)) lp w lr #[c,0] x6) S=#[R7 lc (.tup (ts.map tbl)) lp w lr #[c,0] N,S.set lr (.lst (u.map zQ)),0]/\(∀r∈u,iG ts r)/\u.Nodup/\ u.length <=w:=by
 refine((show ∃r,iG ts r/\zE 3 CO [#[c,5],#[ts.map tbl,6],#[lp,1]] S=#[zQ r,S,1] by
   obtain⟨n,J⟩:=EF c 3 ⟨by decide,by decide⟩ S;have E: ∀x,(SN S x)[lp]? =#[vs,2]:=λx=>by rw[è (gS.mp X).1];exact X
   have hp:0<ts.length:=U.1;have aa:=U.2.1;have ab:=M.1;have ae:=M.2.1;have b: ∀S,kE [#[ts.map tbl,6]] S=.ok #[ts.length,5] S:=λS=>by rw[sN,lM0]
   obtain⟨t,Z,o⟩:=bX n hp;have hw:=YW U o;obtain⟨out,W,e,⟨O,rfl⟩,Q,K⟩:=EE (gf:=yG 0) (cf:=fY) (ef:=bV) (ρb:=[none,#[lp],#[↑2]]) (gs:=[]) (P:=Vl) (I:=λW=> ∃y,W=SN S y) (S:=SN S (n / ts.length)) (ds:=(List.range (AS ts t).toNat).map λk=>MV.int (k:Nat)) (λd hd S1 ⟨y,L⟩=>by subst L;obtain⟨v,Y⟩:=cO (xs:=vs) (i:=y % (vs.length:Int)) (eN _ (by lia)) (eL _ (by lia));refine⟨_,v,SN S (y / (vs.length:Int)),rfl,rfl,?_,cP M.2.2 Y,⟨_,rfl⟩,yT _⟩;unfold bV;simp? [SqM.len (S:=SN S y) (.inr ⟨lp,rfl,E y⟩),sO S y (n:=(vs.length:Int)) (by lia) (by lia),mE (E _) Y]) ⟨_,rfl⟩;rw[lM0,ò]at Q;have F:iG ts (t,out):=⟨ts[t],gE o,by have:=pM (gE o);show(out.length:Int)=_;lia,K⟩
   refine⟨(t,out),F,zX (T:=[.lst [.int O]]) rfl ?_ (YV F _) (λl=>by unfold zQ;simp)⟩;show zN (sK [#[c,0],#[ts.map tbl,3],#[lp],none,none] S)=_;refine zY ?_;unfold sK;refine zB (by unfold sG;simp? [J];rfl) (zB (by unfold sH;simp? [b,sO S n (n:=(ts.length:Int)) (by lia) (by lia),Z];rfl) ?_);obtain⟨e',i1,i2⟩:=RQ o (SN S (n / ts.length));unfold sI;exists 7,i1,i2,cH (j:=AS ts t) (by lia),lm (λk=>MV.int (k:Nat)) (List.range (AS ts t).toNat),e,show wX [.new out] (SN S O)=.ok #[out,6] (SN S O)from rfl)).a λr F C=>?_;have B:MK true _ _ S=.ok _ S:=RO true G (Ny F).1 λy L=>by refine(mM0.mp L).a λq s V=>?_;subst V;have:=Ny (hR q s);exact⟨this.1,by omega⟩
 have b:kE [.val _] S=.ok _ S:=SqM.len (.inr ⟨lr,rfl,G⟩);have m:zQ r∈rs.map zQ↔r∈rs:=⟨λh=>by refine(mM0.mp h).a λq s e=>?_;rw[<-Nz e];exact s,λh=>mem_map_of_mem h⟩
 have A:S.set lr _=S:=set_same G
 obtain⟨D,e,a⟩: ∃D:List _,jU (R7 lc _ lp w lr _ (some (zQ r))) S=.ok _ (S.set lr (.lst _))/\(∀r∈D,iG ts r)/\D.Nodup/\(D.length:Int)<=w:=by
  unfold jU;by_cases H:r∈rs
  .exact⟨rs,(by rw[A];simp? [B,dT0 (m.mpr H)];rfl),hR,J,hl⟩
  by_cases hw:((rs.map zQ).length:Int)<w
  .refine⟨rs++[r],?_,(λq s=>?_),ĸ.mpr ⟨J,by simp,λa ha c hc=>by rw[mS.mp hc];rintro rfl;exact H ha⟩,(by rw[lM0]at hw;refine qq lA (qq lS ?_);omega)⟩
   .simp? [B,dF0 (λz=>H (m.mp z)),b,lt_int,dT0 hw,Bool.not_false,kO G,hX G (by rw[lM0];omega)];rw[Ă];rfl
   .rw[ç,mS]at s;rcases s with s|rfl
    .exact hR q s
    .exact F
  .exact⟨rs,(by rw[A];simp? [B,dF0 (λz=>H (m.mp z)),b,lt_int,dF0 hw,Bool.not_false];rfl),hR,J,hl⟩
 exact Zy _ D (by unfold jI;exact zB (by unfold aI;simp? [C]) e) a
def Vq(H:Nu ts)(is:Za)(hw:0<=w/\w<=900){lp:Nat}(K:Yb vs)(E:S[lp]? =#[vs,2]):
  ∃rs:List (Nat×List MV),(∀r∈rs,iG ts r)/\rs.Nodup/\(rs.length:Int)<=w/\zE 4 uT [.new (is.map MV.int),#[ts.map tbl,6],#[lp,1],#[w,5]] S=.ok #[rs.map zQ,6] S:=by
 have o:lp<S.length:=(gS.mp E).1
 obtain⟨I,D,e,s,x6,rs,b,q,j,k,C⟩:=fD (L:=is.map MV.int) (gf:=yG 5) (body:=jI) (gs:=[(↑2,is.map MV.int)]) (S:=S++[.lst (is.map MV.int)]++[.lst []])
  (λi F D=> ∃(s x6:R0)(rs:V0),F=R7 ↑2 (.tup (ts.map tbl)) lp w (↑2+1) s x6/\D=S++[.lst (is.map MV.int)]++[.lst (rs.map zQ)]/\(∀r∈rs,iG ts r)/\rs.Nodup/\(rs.length:Int)<=w) (λi d hi F M ⟨s,x6,rs,b,A,j,k,C⟩=>by subst b A;refine(mM0.mp (ë hi)).a λc _ N=>?_;subst N;refine(Hn H (c:=c) (w:=w) (lc:=↑2) (lp:=lp) (lr:=↑2+1) (S:=S++[.lst (is.map MV.int)]++[.lst (rs.map zQ)]) (x6:=x6) (rs:=rs) K (by rw[aA,è o];exact E) (by simp) j k C hw.2).k λy a G u B m=>?_;rw[show List.set (S++[MO.lst (is.map MV.int)]++[MO.lst (rs.map zQ)]) (↑2+1) (MO.lst (a.map zQ))=S++[MO.lst (is.map MV.int)]++[MO.lst (a.map zQ)] by simp]at G;exact⟨_,_,G,xS (by simp),#[c,0],y,a,rfl,rfl,u,B,m⟩)
  (Zv none none ([]) ⟨rfl,rfl,(λr v=>by simp at v),(by simp),hw.1⟩)
 subst b q;refine⟨rs,j,k,C,zX (T:=[.lst (is.map MV.int),.lst (rs.map zQ)]) rfl ?_ (yD (zU λd J=>?_)) (λl=>by simp)⟩
 .show zN (lO [#[↑2],#[ts.map tbl,3],#[lp],#[w,0],none,none,none] (S++[.lst (is.map MV.int)]))=_;rw[show S++[MO.lst (is.map MV.int),.lst (rs.map zQ)]=S++[.lst (is.map MV.int)]++[.lst (rs.map zQ)] by simp];refine zY ?_;unfold lO
  exact zB (by unfold oK;simp? [aV];rw[lA]) (zB (by
   unfold oO;simp? [wR (S:=S++[.lst (is.map MV.int)]++[.lst []]) (l:=↑2) (ds:=is.map MV.int) (by simp)];exact e) (by
   unfold oP;exists 7,GF (l:=↑2+1) (ds:=rs.map zQ) (by simp)))
 .refine(mM0.mp J).a λr v O=>?_;subst O;exact YV (j r v) _
def Q7(a b c d)(S):yW [.val a,.val b,.val c,.val d] S=#[[a,b,c,d],S,2]:=nG (by simp)
inductive Side where
 |isv (v:MV)|cell (k j:Nat)
noncomputable def sIs:List Nat:=[105,115]
noncomputable def zCL:List Nat:=[99,101,108,108]
def vA:Side->MV
 |.isv v=>.tup [.str sIs,v]
 |.cell k j=>.tup [.str zCL,.int k,.int j]
def RR(a:Za):Side->Prop
 |.isv v=>Vl v
 |.cell k j=> ∃w,a[k]? =some w/\(j:Int)<w
noncomputable def zA(t:Nat):MV:=.int (t:Nat)
def Q8(ts:Tk)(th:Db):Prop:=1<=th.length/\th.length<=2/\ ∀t∈th,t<ts.length
def RS(h:RR ws sd)(n):lo n (vA sd):=by
 cases sd with
 |isv v=>exact yD (zU λe a=>by simp at a;rcases a with rfl|rfl;(exact mB _ _);exact Vl.lo h n)
 |cell k j=>exact yD (zU λe a=>by simp at a;rcases a with rfl|rfl|rfl<;>first |exact mB _ _|exact xC _ _)
def YX(sd)(l):vA sd≠.loc l:=by cases sd<;>(intro h;cases h)
abbrev D5(l:Nat)(th a:MV)(lp:Nat)(b:R0):Rho:=[#[l],some th,some a,#[lp],b]
theorem Ci(K:Nu ts)(c:Q8 ts th){lp:Nat}(E:l≠lp)(C:Yb vs)(J:S[lp]? =#[vs,2])(G:S[l]? =#[[.int x],2]):
  ∃sd x',RR (th.map (AS ts)) sd/\zE 4 nB [#[l,1],#[th.map zA,6],#[ts.map tbl,6],#[lp,1]] S=#[vA sd,S.set l (.lst [.int x']),1]:=by
 have w: ∀{sd:Side}{x':Int},RR (th.map (AS ts)) sd->uU (D5 l (.tup (th.map zA)) (.tup (ts.map tbl)) lp none) S=.ok (.ret (.val (vA sd))) (S.set l (.lst [.int x']))-> ∃sd x',RR (th.map (AS ts)) sd/\zE 4 nB [#[l,1],#[th.map zA,6],#[ts.map tbl,6],#[lp,1]] S=#[vA sd,S.set l (.lst [.int x']),1]:=λh e=>(Zy _ _ h (VM rfl (zY e) (RS h _) (YX _)))
 have tk: ∀(y:Int){n:Int},0<n->n<1000->zE 2 zC [#[l,1],#[n,5]] (S.set l (.lst [.int y]))=.ok #[y % n,5] (S.set l (.lst [.int (y / n)])):=λy n I O=>by have:=AB (get_set (o':=.lst [.int y]) G) I #[];rwa [ě]at this
 have A: ∀o,(S.set l o)[lp]? =#[vs,2]:=λo=>by rw[xK E];exact J
 have F:=AB (n:=3) G ↑4 ↑4
 cases H:decide (x % 3=0)with
 |true=>
  have P:=C.1;have T:=C.2.1;obtain⟨v,q⟩:=cO (xs:=vs) (i:=x / 3 % (vs.length:Int)) (eN _ #[]) (eL _ #[]);refine w (sd:=.isv v) (x':=x / 3 / (vs.length:Int)) (show Vl v from cP C.2.2 q) (xA ?_);unfold dO;exists 7,F,H,rE (A _),tk (x / 3) (n:=(vs.length:Int)) #[] #[],mE (A _) q
 |false=>
  have B:(0:Int)<(th.length:Int):=by have:=c.1;lia
  have s: ∀S,kE [#[th.map zA,6]] S=.ok #[th.length,5] S:=λS=>by rw[sN,lM0]
  obtain⟨k,L⟩:=ĵ (eN (x / 3) (Int.ne_of_gt B));have u:k<th.length:=by have:=eL (x / 3) B;lia
  have a:th[k]? =some th[k]:=gE u;have m:=c.2.2 th[k] (Ĩ u);generalize th[k]=t at a m;have b:ts[t]? =some ts[t]:=gE m;have D:=YW K m;rw[pM b]at D;obtain⟨j,M⟩:=ĵ (eN (x / 3 / th.length) (show ts[t].1≠0 by lia));have N:=eL (x / 3 / th.length) (show 0<ts[t].1 by lia);refine w (sd:=.cell k j) (x':=x / 3 / th.length / ts[t].1) (Z0 _ (by rw[î,a];show some (AS ts t)=_;rw[pM b]) (by lia)) (zB (by unfold dO;simp? [F,H];rfl) (zB (by unfold oQ;simp? [s,tk (x / 3) B (by have:=c.2.1;lia),L];rfl) ?_));unfold oR;simp? [ix_tup (show qW (th.map zA) (k:Int)=#[t,0]from (by have Q:=(gS.mp a).1;unfold qW WZ;rw[iP #[],iP (by rw[lM0];lia)];show _[(k:Int).toNat]? =_;rw[Ē,î,a];rfl)),ix_tup (Oa b)];rw[show yE (.val (tbl ts[t])) #[0,5] _=#[.int ts[t].1,_,1] from rfl];simp? [tk (x / 3 / th.length) (n:=ts[t].1) #[] #[]];rw[M];rfl
structure Test where
 l:Side
 w:List Nat
 r:Side
noncomputable def YY:List (List Nat):=[[115,97,109,101],[117,110,108,105,107,101],[108,101,115,115]]
def testM(t:Test):MV:=.tup [vA t.l,.str t.w,vA t.r]
def VT(a:Za)(t:Test):Prop:=RR a t.l/\t.w∈YY/\RR a t.r
def RT(h:VT ws t)(n):lo n (testM t):=yD (zU λe a=>by
 simp only[mC,nM,or_false]at a;rcases a with rfl|rfl|rfl
 .exact RS h.1 n
 .exact mB _ _
 .exact RS h.2.2 n)
abbrev T8(l:Nat)(th a:MV)(lp lt:Nat)(b x6 x7:R0):Rho:=[#[l],some th,some a,#[lp],#[lt],b,x6,x7]
theorem Ho(y:Nu ts)(c:Q8 ts th){lp:Nat}(a:l≠lp)(k:l≠lt)(F:Yb vs)(E:S[lp]? =#[vs,2])(u:S[l]? =#[[.int x],2])
  (hQ:S[lt]? =#[qs.map testM,2]) (hql:qs.length<1000): ∃(q:Test)(x':Int)(I N:R0),VT (th.map (AS ts)) q/\bW (T8 l (.tup (th.map zA)) (.tup (ts.map tbl)) lp lt x5 x6 x7) S=#[T8 l (.tup (th.map zA)) (.tup (ts.map tbl)) lp lt x5 I N,(S.set l (.lst [.int x'])).set lt (.lst ((qs++[q]).map testM)),0]:=by
 refine(Ci y c a F E u).d λA J s H=>?_;refine(Ci y c a F (S:=S.set l (.lst [.int J])) (by rw[xK a];exact E) (get_set u)).d λv j m C=>?_;rw[ě]at C;have G:=AB (n:=4) (get_set (o':=.lst [.int j]) u) ↑4 ↑4;rw[ě]at G;obtain⟨d,B⟩:=cO (xs:=[MV.str [115,97,109,101],MV.str [117,110,108,105,107,101],MV.str [108,101,115,115],MV.str [115,97,109,101]]) (i:=j % 4) (eN _ ↑4) (eL _ ↑4);obtain⟨w,rfl,hw⟩: ∃w,d=.str w/\w∈YY:=cP (P:=λd=> ∃w,d=MV.str w/\w∈YY) (λe D=>by simp only[mC,nM,or_false]at D;rcases D with rfl|rfl|rfl|rfl<;>exact Z0 _ rfl (by decide)) B;have b: ∀o,(S.set l o)[lt]? =some _:=λo=>by rw[xK k];exact hQ
 refine Zw ⟨A,w,v⟩ (j / 4) (some (vA A)) (some (vA v)) ⟨⟨s,hw,m⟩,?_⟩;refine zB (by unfold cK;simp? [H];rfl) (zB (by unfold cL;simp? [C];rfl) ?_);unfold cN;simp? [kO (b _),Q7,G,BU B,hX (b _) (by rw[lM0];lia)];rw[Ă];rfl
theorem VU(hT:Nu ts)(G:Q8 ts th){lp:Nat}(w:l≠lp)(hV:Yb vs)(Q:S[lp]? =#[vs,2])(N:S[l]? =#[[.int x],2]):
  ∃(qs:List Test)(x':Int),1<=qs.length/\qs.length<=3/\(∀q∈qs,VT (th.map (AS ts)) q)/\zE 4 kM [#[l,1],#[th.map zA,6],#[ts.map tbl,6],#[lp,1]] S=.ok #[qs.map testM,6] (S.set l (.lst [.int x'])):=by
 have C:l<S.length:=(gS.mp N).1;have K:lp<S.length:=(gS.mp Q).1;have J:(S++[MO.lst []])[l]? =#[[.int x],2]:=by rw[è C];exact N
 have W:=AB (n:=4) J ↑4 ↑4;have A: ∀(y:Int)(zs:List Test),List.set (S++[MO.lst (zs.map testM)]) l (MO.lst [.int y])=S.set l (.lst [.int y])++[.lst (zs.map testM)]:=λy zs=>set_append_left _ _ C;rw[show S++[MO.lst []]=S++[MO.lst (([]:List Test).map testM)]from rfl,A]at W;obtain⟨m,X⟩:=cO (xs:=[MV.int 1,MV.int 1,MV.int 2,MV.int 3]) (i:=x % 4) (eN _ ↑4) (by have:=eL x (show(0:Int)<4 by decide);show x % 4<4;exact this);obtain⟨I,rfl,m1,m3⟩: ∃v,m=.int v/\1<=v/\v<=3:=cP (P:=λe=> ∃v,e=.int v/\(1:Int)<=v/\v<=3) (by intro e O;simp only[mC,nM,or_false]at O;rcases O with rfl|rfl|rfl|rfl<;>exact ZB _ rfl (by decide) (by decide)) X;have s:((List.range I.toNat).map λk=>MV.int (k:Nat)).length=I.toNat:=by rw[lM0,ò]
 obtain⟨ρ',S',e,F,x6,x7,x',qs,o,M,j,c⟩:=fD (L:=(List.range I.toNat).map λk=>MV.int (k:Nat)) (gf:=yG 5) (body:=bW) (gs:=[])
  (λi U S'=> ∃(F x6 x7:R0)(x':Int)(qs:List Test),U=T8 l (.tup (th.map zA)) (.tup (ts.map tbl)) lp ↑2 F x6 x7/\S'=S.set l (.lst [.int x'])++[.lst (qs.map testM)]/\qs.length=i/\ ∀q∈qs,VT (th.map (AS ts)) q) (λi d hi U S1 z0=>by
   refine z0.m λF x6 x7 x' qs z0=>?_;refine z0.e λo H j c=>?_
   subst o H;have aa:i<4:=by have:=(gS.mp hi).1;lia
   have a:(S.set l (.lst [.int x'])).length=S.length:=ā;have a1:(S.set l (.lst [.int x'])++[MO.lst (qs.map testM)])[lp]? =#[vs,2]:=by rw[è (by rw[a];exact K),xK w];exact Q
   have a2:(S.set l (.lst [.int x'])++[MO.lst (qs.map testM)])[l]? =#[[.int x'],2]:=by rw[è (by rw[a];exact C)];exact get_set N
   have a3:(S.set l (.lst [.int x'])++[MO.lst (qs.map testM)])[↑2]? =#[qs.map testM,2]:=by rw[<-a];simp
   obtain⟨q,b,y6,y7,E,Y⟩:=Ho hT G (x6:=x6) (x7:=x7) (qs:=qs) w #[] hV a1 a2 a3 #[];have u:List.set (List.set (S.set l (.lst [.int x'])++[MO.lst (qs.map testM)]) l (MO.lst [.int b])) ↑2 (MO.lst ((qs++[q]).map testM))=S.set l (.lst [.int b])++[.lst ((qs++[q]).map testM)]:=by rw[set_append_left _ _ (by rw[a];exact C),ě];have D:(S.set l (.lst [.int b])).length=S.length:=ā;rw[<-D];simp
   rw[u]at Y;refine⟨_,_,?_,yT _,some d,y6,y7,b,qs++[q],rfl,rfl,by rw[lA,j];rfl,?_⟩
   .rw[show yG 5 d _ _=.ok (T8 l (.tup (th.map zA)) (.tup (ts.map tbl)) lp ↑2 (some d) x6 x7) _ from rfl,aV,Y]
   .intro z B;rw[ç,mS]at B;rcases B with B|rfl
    .exact c z B
    .exact E) (Zp none none none (x / 4) ([]) ⟨rfl,rfl,rfl,(λp hp=>by simp at hp)⟩)
 subst o M;rw[s]at j;have a:(S.set l (.lst [.int x'])).length=S.length:=ā;refine Zr qs x' (by lia) (by lia) c (GE (T:=[.lst (qs.map testM)]) rfl ?_ (yD (zU λd Z=>?_)) (λl=>by simp))
 .show zN _=_;refine zY ?_;unfold sM;refine zB (ρ':=T8 l (.tup (th.map zA)) (.tup (ts.map tbl)) lp ↑2 none none none) (S':=S++[.lst (([]:List Test).map testM)]) rfl (zB (by unfold fZ;simp? [Q7,W,BU X];rw[cH #[],aV];exact e) ?_);unfold iA;exists 7,GF (ds:=qs.map testM) (by rw[<-a];simp)
 .refine(mM0.mp Z).a λq E V=>?_;subst V;exact RT (c q E) _
inductive Rule where
 |never (t:Nat) (qs:List Test)|apart (t u:Nat) (qs:List Test)|tie (t:Nat) (cs:Db) (u:Nat) (ds:Db)
noncomputable def R3:List Nat:=[110,101,118,101,114]
noncomputable def RU:List Nat:=[97,112,97,114,116]
noncomputable def sTie:List Nat:=[116,105,101]
def yM:Rule->MV
 |.never t qs=>.tup [.str R3,.int (t:Nat),.tup (qs.map testM)]
 |.apart t u qs=>.tup [.str RU,.int (t:Nat),.int (u:Nat),.tup (qs.map testM)]
 |.tie t cs u ds=>.tup [.str sTie,.int (t:Nat),.tup (cs.map zA),.int (u:Nat),.tup (ds.map zA)]
def jK(ts:Tk):Rule->Prop
 |.never t qs=>t<ts.length/\1<=qs.length/\qs.length<=3/\ ∀q∈qs,VT [AS ts t] q
 |.apart t u qs=>t<ts.length/\u<ts.length/\1<=qs.length/\qs.length<=3/\ ∀q∈qs,VT [AS ts t,AS ts u] q
 |.tie t cs u ds=>t<ts.length/\u<ts.length/\1<=cs.length/\cs.length<=3/\ds.length=cs.length/\(∀c∈cs,(c:Int)<AS ts t)/\ ∀d∈ds,(d:Int)<AS ts u
def IO(h:jK ts r)(n):lo n (yM r):=by
 have nm: ∀(b:Db),lo n (.tup (b.map zA)):=λb=>yD (zU λe a=>by refine(mM0.mp a).a λc _ k=>?_;subst k;exact xC _ _)
 cases r with
 |never t qs=>
  refine yD (zU λe a=>?_);simp only[mC,nM,or_false]at a;rcases a with rfl|rfl|rfl
  .exact mB _ _
  .exact xC _ _
  .exact yD (zU λe a=>by obtain⟨q,j,rfl⟩:=mM0.mp a;exact RT (h.2.2.2 q j) n)
 |apart t u qs=>
  refine yD (zU λe a=>?_);simp only[mC,nM,or_false]at a;rcases a with rfl|rfl|rfl|rfl
  .exact mB _ _
  .exact xC _ _
  .exact xC _ _
  .exact yD (zU λe a=>by refine(mM0.mp a).a λq j m=>?_;subst m;exact RT (h.2.2.2.2 q j) n)
 |tie t b u ds=>
  refine yD (zU λe a=>?_);simp only[mC,nM,or_false]at a;rcases a with rfl|rfl|rfl|rfl|rfl
  .exact mB _ _
  .exact xC _ _
  .exact nm b
  .exact xC _ _
  .exact nm ds
abbrev U9(c:MV)(a:MV)(lp l:Nat)(k t u:R0)(x7 j b:R0):Rho:=[some c,some a,#[lp],#[l],k,t,u,x7,j,b]
def tup1(a)(S):wD [.val a] S=.ok #[[a],6] S:=mG (by simp)
def zCM(a b c d)(S):wD [.val a,.val b,.val c,.val d] S=.ok #[[a,b,c,d],6] S:=mG (by simp)
def tup5(a b c d e)(S):wD [.val a,.val b,.val c,.val d,.val e] S=.ok #[[a,b,c,d,e],6] S:=mG (by simp)
theorem Cj(w:Nu ts)(A:t<ts.length){mi:Int}
  (hef: ∀ d  y ,ef (ρb.set 0 (some d)) (SN S y)=zE 2 zC [#[↑2,1],#[AS ts t,5]] (SN S y)): ∃(j:Db)(x':Int),zW (yG 0) (λG S=>(R.ok true S)) ef ρb [] ((List.range mi.toNat).map λk=>MV.int (k:Nat)) (SN S x)=.ok (j.map zA) (SN S x')/\(j.length)=mi.toNat/\ ∀c∈j, c <AS ts t:=by
 have hw:=YW w A;obtain⟨out,s,e,⟨x',rfl⟩,v,C⟩:=EE (gf:=yG 0) (cf:=λG S=>(R.ok true S)) (ef:=ef) (P:=λy=> ∃c:Nat,y=zA c/\(c:Int)<AS ts t) (I:=λs=> ∃y,s=SN S y) (λd u D ⟨y,q⟩=>by subst q;have B:0<=y % AS ts t:=eN _ #[];have E:y % AS ts t<AS ts t:=eL _ #[];obtain⟨c,m⟩:=ĵ B;refine Zv _ (.int (y % AS ts t)) (SN S (y / AS ts t)) ⟨rfl,rfl,?_,⟨c,by rw[m];rfl,by lia⟩,⟨_,rfl⟩,yT _⟩;rw[hef,sO S y #[] #[]]) ⟨x,rfl⟩
 have: ∀(o:Q0),(∀y∈o, ∃c:Nat,y=zA c/\(c:Int)<AS ts t)-> ∃j:List Nat,o=j.map zA/\ ∀c∈j,(c:Int)<AS ts t:=by
  intro o
  induction o with
  |nil=>exact λ_=>⟨[],rfl,λc m=>by simp at m⟩
  |cons a o ih=>
   intro h;refine(h a mF0).a λc F m=>?_;subst F;refine(ih λy q=>h y (mO _ q)).a λj J b=>?_;subst J;exact⟨_,rfl,λd u=>(mC.mp u).elim (λe=>e▸m) (b d)⟩
 refine(this out C).a λj K b=>?_;subst K;exact ZC j x' e (by rw[lM0,lM0,ò]at v;exact v) b
theorem Vr(w:Nu ts)(c){lp:Nat}(hV:Yb vs)(hP:S[lp]? =#[vs,2]):
  ∃r,jK ts r/\zE 3 gN [#[c,5],#[ts.map tbl,6],#[lp,1]] S=#[yM r,S,1]:=by
 obtain⟨n,hn⟩:=EF c 4 ⟨by decide,by decide⟩ S;have Q:lp<S.length:=(gS.mp hP).1;have D:↑2≠lp:=by lia
 have E: ∀x,(SN S x)[lp]? =#[vs,2]:=λx=>by rw[è Q];exact hP
 have hp:0<ts.length:=w.1;have aa:=w.2.1;have j: ∀S,kE [#[ts.map tbl,6]] S=.ok #[ts.length,5] S:=λS=>by rw[sN,lM0]
 have s: ∀(r:Rule)(x:Int),jK ts r->gN [.int c,.tup (ts.map tbl),.loc lp] S=#[yM r,SN S x,1]-> ∃r,jK ts r/\zE 3 gN [#[c,5],#[ts.map tbl,6],#[lp,1]] S=#[yM r,S,1]:=
  λr x G h=>⟨r,G,zX (T:=[.lst [.int x]]) rfl h (IO G _) ((λl=>by cases r<;>(intro h;cases h)))⟩
 obtain⟨t,ht,a⟩:=bX (n / 3) hp;refine(bX (n / 3 / ts.length) hp).a λu hu b=>?_;have J: ∀{q x},zF wM _ (U9 (.int c) (.tup (ts.map tbl)) lp ↑2 #[n % 3,0] #[(t:Nat),0] #[(u:Nat),0] none none none) (SN S (n / 3 / ts.length / ts.length))=.ok (.ret (.val q)) (SN S x)->gN [.int c,.tup (ts.map tbl),.loc lp] S=#[q,SN S x,1]:=λh=>by show zN (lP [#[c,0],#[ts.map tbl,3],#[lp],none,none,none,none,none,none,none] S)=_;refine zY ?_;unfold lP;refine zB (by unfold oS;simp? [hn];rfl) (zB (by unfold oU;simp? [sO S n (n:=3) ↑4 ↑4];rfl) (zB (by unfold oV;simp? [j,sO S (n / 3) (n:=(ts.length:Int)) (by lia) (by lia),ht];rfl) (zB (by unfold oW;simp? [j,sO S (n / 3 / ts.length) (n:=(ts.length:Int)) (by lia) (by lia),hu]) h)))
 generalize n / 3 / ts.length / ts.length=x4 at J
 cases Z:decide (n % 3=0)with
 |true=>
  refine(VU w (th:=[t]) ⟨by simp,by simp,λz I=>by rw[mS.mp I];exact a⟩ D hV (E x4) (Cd S x4)).k λA C N W O F=>?_;rw[RN]at F;have o:zE 4 kM [#[↑2,1],#[[.int (t:Nat)],6],#[ts.map tbl,6],#[lp,1]] (SN S x4)=.ok #[A.map testM,6] (SN S C):=F;refine s (.never t A) C ⟨a,N,W,O⟩ (J (xA ?_));unfold wM;exists 7,Z,tup1,o
 |false=>
  cases H:decide (n % 3=1)with
  |true=>
   refine(VU w (th:=[t,u]) ⟨by simp,by simp,λz I=>by simp at I;rcases I with rfl|rfl;(exact a);exact b⟩ D hV (E x4) (Cd S x4)).k λA C N W O F=>?_;rw[RN]at F;have o:zE 4 kM [#[↑2,1],#[[.int (t:Nat),.int (u:Nat)],6],#[ts.map tbl,6],#[lp,1]] (SN S x4)=.ok #[A.map testM,6] (SN S C):=F;refine s (.apart t u A) C ⟨a,b,N,W,O⟩ (J (zB (by unfold wM;simp? [Z];rfl) (xA ?_)));unfold dP;exists 7,H,zCM,o
  |false=>
   obtain⟨m,hm⟩:=cO (xs:=[MV.int 1,MV.int 2,MV.int 1,MV.int 3,MV.int 1]) (i:=x4 % 5) (eN _ ↑4) (by have:=eL x4 (show(0:Int)<5 by decide);show x4 % 5<5;exact this);obtain⟨mi,rfl,m1,m3⟩: ∃v,m=.int v/\1<=v/\v<=3:=cP (P:=λe=> ∃v,e=.int v/\(1:Int)<=v/\v<=3) (by intro e he;simp only[mC,nM,or_false]at he;rcases he with rfl|rfl|rfl|rfl|rfl<;>exact ZB _ rfl (by decide) (by decide)) hm;refine(Cj w a (ρb:=[none,#[ts.map tbl,3],#[↑2],#[(t:Nat),0]]) (S:=S) (x:=x4 / 5) (mi:=mi) (λd y=>by obtain⟨e,U,X⟩:=RQ a (SN S y);show jV [some d,#[ts.map tbl,3],#[↑2],#[(t:Nat),0]] (SN S y)=_;unfold jV;exists 7,U,X)).b λcs x8 K ae Y=>?_;refine(Cj w b (ρb:=[none,#[ts.map tbl,3],#[↑2],#[(u:Nat),0]]) (S:=S) (x:=x8) (mi:=mi) (λd y=>by obtain⟨e,U,X⟩:=RQ b (SN S y);show jW [some d,#[ts.map tbl,3],#[↑2],#[(u:Nat),0]] (SN S y)=_;unfold jW;exists 7,U,X)).b λds x9 M ab L=>?_;have B:((List.range mi.toNat).map λk=>MV.int (k:Nat)).length<1000000:=by rw[lM0,ò];lia
   have G: ∀S,gH [#[mi,5]] S=_:=λS=>cH (show -(2 ^ 62)<=mi/\mi<2 ^ 62 by lia)
   refine s (.tie t cs u ds) x9 ⟨a,b,by lia,by lia,by lia,Y,L⟩ (J (zB (by unfold wM;simp? [Z];rfl) (zB (by unfold dP;simp? [H];rfl) (zB (by unfold oX;simp? [Q4,sO S x4 (n:=5) ↑4 ↑4,BU hm];rfl) (zB (by
    unfold oY;simp? [G];erw [iP B,K];rfl) (zB (by
    unfold oZ;simp? [G];erw [iP B,M];rfl) ?_))))))
   unfold iB;simp? [tup5];rfl
noncomputable def vB(rs:V0):Side->MV
 |.isv v=>v
 |.cell k j=>((rs[k]?).bind λr=>r.2[j]?).getD .non
def ZA(a:Za)(rs:V0):Prop:= ∀(k:Nat)(w:Int),a[k]? =some w-> ∃r:Nat×List MV,rs[k]? =some r/\(r.2.length:Int)=w/\ ∀d∈r.2,Vl d
theorem dS{k:Nat}(h:xs[k]? =some x):qW xs  k =some x:=by have a:=(gS.mp h).1;unfold qW WZ;rw[iP #[],iP #[]];show xs[(k:Int).toNat]? =_;rw[Ē,h]
theorem Ck(o:ZA ws rs)(h:RR ws (.cell k j)): ∃(r:Nat×List MV)(v:MV),rs[k]? =some r/\r.2[j]? =some v/\Vl v/\vB rs (.cell k j)=v:=by
 refine h.a λw m q=>?_;refine(o k w m).c λr b s c=>?_;have a:j<r.2.length:=by lia
 refine Zr r _ b (gE a) (c _ (Ĩ a)) ?_;show((rs[k]?).bind λr=>r.2[j]?).getD .non=_;rw[b];show(r.2[j]?).getD .non=_;rw[gE a];rfl
def LI(b:ZA ws rs)(h:RR ws sd):Vl (vB rs sd):=by
 cases sd with
 |isv v=>exact h
 |cell k j=>refine(Ck b h).k λr v _ _ c a=>?_;rw[a];exact c
def Ob(h:Vl d)(l):d≠.loc l:=by rcases h.cases with⟨i,rfl,_⟩|⟨x,rfl,_⟩<;>simp
def Yc(x y)(S):iQ (.val (.str x)) (.val (.str y)) S=#[.bl (decide (x=y)),S,1]:=XS (Ba _ x y)
def eqV(c:Vl a)(j:Vl b)(S):iQ (.val a) (.val b) S=#[.bl (decide (a=b)),S,1]:=Cc (aX c).1 (aX j).1 (by rw[(aX c).2];decide)
def neV(c:Vl a)(j:Vl b)(S):MH (.val a) (.val b) S=#[.bl (!decide (a=b)),S,1]:=QM (iE _ (aX c).1 (aX j).1 (by rw[(aX c).2];exact Nat.succ_pos _))
def EL(b:ZA ws rs)(h:RR ws sd)(u:SqM S m (rs.map zQ)):zE 2 eE [.val (vA sd),.val m] S=#[vB rs sd,S,1]:=by
 have a:=LI b h;refine eS rfl ?_ (a.lo _) (Ob a);show zN _=_;refine zY ?_
 cases sd with
 |isv v=>
  refine xA ?_;exists 7,ix_tup rfl,ix_tup rfl,Yc
 |cell k j=>
  refine(Ck b h).k λr v s o w q=>?_;have c:qW _ _=some (zQ r):=dS (by rw[î,s];rfl);rw[q];refine zB (ρ':=[some (vA (.cell k j)),some m]) (S':=S) ?_ ?_
  .unfold fI;exists 7,ix_tup rfl,Yc
  .unfold fK;exists 7,show yE _ _ S=.ok _ S from ix_tup rfl,show yE _ _ S=.ok _ S from ix_tup rfl,u.ix c,show yE _ _ S=.ok _ S from ix_tup rfl,ix_tup (dS o)
noncomputable def ltV:MV->MV->Bool
 |.int i,.int j=>decide (i<j)
 |_,_=>false
noncomputable def Yd:List Nat:=[115,97,109,101]
noncomputable def Cm:List Nat:=[117,110,108,105,107,101]
def BL(rs:V0)(q:Test):Bool:=if q.w=Yd then decide (vB rs q.l=vB rs q.r)else if q.w=Cm then !decide (vB rs q.l=vB rs q.r)else ltV (vB rs q.l) (vB rs q.r)
def Co(a:↑9=n)(c:F (zK rs S).1 (zK rs S).2=#[.bl b,S++T,1]):zE n F rs S=#[.bl b,S,1]:=zX a c (JS _ _) (λl=>by simp)
def nE(a:↑9=n)(c:F (zK rs S).1 (zK rs S).2=#[.bl b,S,1]):zE n F rs S=#[.bl b,S,1]:=eS a c (JS _ _) (λl=>by simp)
def Cp(h:Vl d)(S):zE 1 rK [.val d] S=#[.bl (match d with |.int _=>true|_=>false),S,1]:=nE rfl (by
 rcases h.cases with⟨i,rfl,_⟩|⟨x,rfl,_⟩
 .rfl
 .rfl)
def Hq(u:ZA ws rs)(h:VT ws q)(C:SqM S m (rs.map zQ)):zE 2 FN [.val m,.val (testM q)] S=#[.bl (BL rs q),S,1]:=nE rfl (by
 have c:=LI u h.1;have k:=LI u h.2.2;have B:=EL u h.1 C;have A:=EL u h.2.2 C;have E: ∀S,yE (.val (testM q)) #[0,5] S=.ok _ S:=λS=>ix_tup rfl;have v: ∀S,yE (.val (testM q)) #[1,5] S=.ok _ S:=λS=>ix_tup rfl;have D: ∀S,yE (.val (testM q)) #[2,5] S=.ok _ S:=λS=>ix_tup rfl;show zN (vU [some m,some _,none,none] S)=_;refine zY ?_;unfold vU BL Yd Cm;generalize vB rs q.l=a at c B;generalize vB rs q.r=b at k A;refine zB (by unfold uB;simp? [E,B];rfl) (zB (by unfold uC;simp? [D,A];rfl) ?_);by_cases s:q.w=[115,97,109,101]
 .rw[iP s];refine xA ?_;unfold iT;simp? [v,Yc,dT0 s,eqV c k]
 rw[iN0 s];refine zB (by unfold iT;simp? [v,Yc,dF0 s];rfl) ?_;by_cases o:q.w=[117,110,108,105,107,101]
 .rw[iP o];refine xA ?_;unfold iU;simp? [v,Yc,dT0 o,neV c k]
 rw[iN0 o];refine zB (by unfold iU;simp? [v,Yc,dF0 o];rfl) ?_;unfold uD;rcases c.cases with⟨i,rfl,_⟩|⟨x,rfl,_⟩<;>rcases k.cases with⟨j,rfl,_⟩|⟨y,rfl,_⟩<;>(simp? [Cp c,Cp k,Re,lt_int];rfl))
theorem Cq{α:Type}(f)(xs:List α)(S):Ld [.new (xs.map λx=>.bl (f x))] S=#[.bl (xs.all f),S,1]:=by
 have h: ∀xs:List α,iR (xs.map λx=>.bl (f x))=some (xs.map f):=by
  intro xs
  induction xs with
  |nil=>rfl
  |cons x xs ih=>rw[í];unfold iR;rw[ih];rfl
 show(match (some _).bind iR with |some bs=>R.ok _ S|none=>.no)=_;rw[show(some _).bind iR=some _ from h xs];show R.ok _ S=_;rw[all_map];rfl
theorem sP(ds)(S):Fg #[ds,6] S=.ok ⟨ds,[]⟩ S:=rfl
def Ye(b:ZA ws rs){qs:List Test}(k:qs.length<=3)(h: ∀q∈qs,VT ws q)(S):zE 2 wK [.new (rs.map zQ),#[qs.map testM,6]] S=#[.bl (qs.all (BL rs)),S,1]:=Co rfl (by
 show zN (cR [some _,some _] _)=_;have a:SqM (S++[.lst (rs.map zQ)]) (.loc ↑2) (rs.map zQ):=.inr ⟨_,rfl,by simp⟩;have c:zW (yG 0) gV wU [none,some _] [] _ _=.ok _ _:=kN (yT _) λq j=>⟨_,rfl,rfl,by unfold wU;exists 7,Hq b (h q j) a⟩
 unfold cR nK;simp? [sP,lm testM qs];erw [c];simp? [Cq];rfl)
def rs1(h:iG ts a)(e:a.1=t):ZA [AS ts t] [a]:=λk w b=>by
 refine h.c λp m c j=>?_
 match k,b with
 |0,b=>
  cases b;subst e;exact ZB a rfl (by rw[pM m];exact c) j
def rs2(s:iG ts a)(B:iG ts b)(o:a.1=t)(D:b.1=u):ZA [AS ts t,AS ts u] [a,b]:=λk w c=>by
 refine s.c λp v m y=>?_;refine B.c λq C A j=>?_
 match k,c with
 |0,c=>
  cases c;subst o;exact ZB a rfl (by rw[pM v];exact m) y
 |1,c=>
  cases c;subst D;exact ZB b rfl (by rw[pM C];exact A) j
noncomputable abbrev ob(c:Str)(d:MV):MV:=.obj c ["parts"] [d]
theorem MS(a)(S):yE (.val (zQ a)) #[0,5] S=.ok #[a.1,5] S:=ix_tup rfl
theorem fN(d)(S):iS Hk "parts" (.val (ob "Never" d)) S=#[d,S,1]:=rfl
theorem fA(d)(S):iS Hk "parts" (.val (ob "Apart" d)) S=#[d,S,1]:=rfl
theorem fT(d)(S):iS Hk "parts" (.val (ob "Tie" d)) S=#[d,S,1]:=rfl
abbrev Hr(m:Str)(n:Nat)(a:List (Str×↑16))(d:MV)(xs:List Er)(b:Bool)(S:Sto):Prop:=
 ∃F,QU m a (.val d)=some F/\zE n F (.val d::xs) S=#[.bl b,S,1]
def Cr(hs:QU "bars" vV (.val (ob c (.tup (.str x::more))))=some dX)(a)(S):Hr "bars" 2 vV (ob c (.tup (.str x::more))) [.val a] false S:=(Z0 _ hs (nE rfl rfl))
theorem Cs(h:jK ts (.apart t u qs))(o:iG ts a)(v:iG ts b)(S):zE 3 xB [.val (ob "Apart" (yM (.apart t u qs))),.val (zQ a),.val (zQ b)] S=#[.bl (decide ((a.1:Int)=t)&&decide ((b.1:Int)=u)&&qs.all (BL [a,b])),S,1]:=nE rfl (by
 have k: ∀S,yE (.val (yM (.apart t u qs))) #[1,5] S=.ok _ S:=λS=>ix_tup rfl;have m: ∀S,yE (.val (yM (.apart t u qs))) #[2,5] S=.ok _ S:=λS=>ix_tup rfl;have q: ∀S,yE (.val (yM (.apart t u qs))) #[3,5] S=.ok _ S:=λS=>ix_tup rfl;show zN (wO [some _,some _,some _] S)=_;refine zY ?_
 cases j:decide ((a.1:Int)=t)with
 |false=>exact xA (by unfold yB;simp? [MS,fA,k,ne_int,j];rfl)
 |true=>
  cases c:decide ((b.1:Int)=u)with
  |false=>exact xA (by unfold yB;simp? [MS,fA,k,m,ne_int,j,c];rfl)
  |true=>
   have s:zE 2 wK [.new [zQ a,zQ b],.val _] S=.ok _ S:=Ye (rs2 o v (by have:=ï j;lia) (by have:=ï c;lia)) h.2.2.2.1 h.2.2.2.2 S;refine zB (by unfold yB;simp? [MS,fA,k,m,ne_int,j,c];rfl) ?_;unfold xT;simp? [fA,q,s];rfl)
def VW(hs:QU "parts_them" wL (.val (ob c (.tup (.str x::more))))=some xF)(a b)(S):Hr "parts_them" 3 wL (ob c (.tup (.str x::more))) [.val a,.val b] false S:=(Z0 _ hs (nE rfl rfl))
def Oc(u:S[l]? =#[ys,2])(k: ∀d∈xs,Vl d)(s: ∀d∈ys,Vl d):iQ (.new xs) #[l,1] S=#[.bl (decide (xs=ys)),S,1]:=by
 have q:MG S #[l,1]=some (.ls ys):=by show(wN S _).map Vw.ls=_;rw[fE u];rfl
 have e:BS S zL (.new xs) #[l,1]=some (decide (xs=ys)):=by
  unfold BS;rw[q];show Xq _ (.ls xs) (.ls ys)=_;obtain⟨bs,o,m⟩:=EH λa j b v=>iE zL (aX (k a j)).1 (aX (s b v)).1 (by rw[(aX (k a j)).2];decide);rw[QC];by_cases c:↑12=ys.length
  .rw[o];rw[<-m,c];simp
  .rw[iN0 c,dF0 λz=>c (by rw[z])]
 unfold iQ;rw[e]
noncomputable def bY(a:Nat×List MV)(b:Db):List MV:=b.map λc=>(a.2[c]?).getD .non
def Ct{a:Nat×List MV}(b: ∀d∈a.2,Vl d)(h:c<a.2.length):qW a.2  c =some ((a.2[c]?).getD .non)/\Vl ((a.2[c]?).getD .non):=by have e:=gE h;rw[e];exact⟨dS e,b _ (Ĩ h)⟩
def LK(k: ∀d∈a.2,Vl d)(h: ∀c∈cs,c<a.2.length): ∀d∈bY a cs,Vl d:=λd j=>by refine(mM0.mp j).a λc b m=>?_;subst m;exact(Ct k (h c b)).2
def ZD(k: ∀d∈a.2,Vl d)(h: ∀c∈cs,c<a.2.length)(S)(j:cf=λ_ S=>.ok true S)(b: ∀ c ,ef [some (zA c),some (zQ a)] S=yE #[a.2,6] (.val (zA c)) S):zW (yG 0) cf ef [none,some (zQ a)] [] (cs.map zA) S=.ok (bY a cs) S:=kN (yT S) λc m=>(ZB ([some _,some _]) rfl (by rw[j]) (by rw[b];exact ix_tup (Ct k (h c m)).1))
def Cu(b: ∀d∈a.2,Vl d)(m:cs.length<=3)(h: ∀c∈cs,c<a.2.length)(S):zE 2 rN [.val (zQ a),#[cs.map zA,6]] S=#[bY a cs,S,2]:=fC rfl (by
 show zN (rM [some _,some _] S)=_;have j:=ZD b h S (ef:=fM) rfl λc=>by exists 7,row1
 unfold rM rL;simp? [sP,lm zA cs];erw [j];rw[aN];rfl) (zU λd k=>(LK b h d k).lo _)
theorem Vs(ds)(S):iQ (.new ds) (.new []) S=#[.bl ds.isEmpty,S,1]:=by cases ds<;>rfl
section
theorem VX(h:jK ts (.tie t cs u ds))(k:iG ts a):(a.1=t-> ∀c∈cs,c<a.2.length)/\(a.1=u-> ∀c∈ds,c<a.2.length):=by
 refine k.c λp j m _=>?_;refine⟨λe c b=>?_,λe c b=>?_⟩
 .have:=h.2.2.2.2.2.1 c b;rw[<-e,pM j]at this
  lia
 .have:=h.2.2.2.2.2.2 c b;rw[<-e,pM j]at this
  lia
def zDG(u:Nat)(ds:Db)(a:Q0)(o:Nat×List MV):Bool:=decide ((o.1:Int)=u)&&decide (bY o ds=a)
abbrev LkB(d a:MV)(c:Nat)(b:Bool)(S:Sto):Prop:=
 ∃F,QU "lacks" qH (.val d)=some F/\ ∃T,F [d,a,.loc c] S=#[.bl b,S++T,1]
noncomputable abbrev K5(d a:MV)(l:Nat)(x y:R0):Rho:=[some d,some a,#[l],x,y]
end
def VY(hs:QU "lacks" qH (.val (ob c (.tup (.str x::more))))=some gW)(a)(l1)(S):LkB (ob c (.tup (.str x::more))) a l1 false S:=⟨_,hs,[],by rw[aN];rfl⟩
def lV(ns:Za)(k)(q:0<=k)(S): ∃c,zE 2 zS [.val ↑8,#[k,5]] S=.ok #[c,5] S:=by
 have a:kE [.val ↑8] S=.ok #[ns.length,5] S:=by show R.ok _ S=_;rw[lM0]
 have j: ∀{c},fX [some _,some _] S=.ok _ S-> ∃c,zE 2 zS [.val ↑8,#[k,5]] S=#[_,S,1]:=λ{c} h=>⟨c,eS rfl (zY h) (xC _ _) (λl=>by simp)⟩
 by_cases b:k<ns.length
 .obtain⟨d,o⟩:=cO (xs:=ns.map MV.int) q (by rw[lM0];exact b);obtain⟨c,rfl⟩: ∃c,d=.int c:=cP (P:=λd=> ∃c,d=.int c) (λe s=>by refine(mM0.mp s).a λc _ u=>?_;subst u;exact⟨c,rfl⟩) o;have m:yE (.val (.scr (ns.map MV.int))) #[k,5] S=.ok #[c,5] S:=by show(match qW _ k with |some d=>R.ok (Er.val d) S|none=>.no)=_;rw[o]
  exact j (xA (by unfold kL;exists 7,a,lt_int,dT0 b,m))
 .exact j (zB (by unfold kL;simp? [a,lt_int,dF0 b];rfl) (by rfl))
noncomputable def zCN:Rule->Str
 |.never _ _=>"Never"
 |.apart _ _ _=>"Apart"
 |.tie _ _ _ _=>"Tie"
def Yf(h:lo n d):lo n (ob c d):=by exact zU λe a=>by rw[mS.mp a];exact h
def made(h:jK ts r)(S):zE 1 FO [.val (yM r)] S=#[ob (zCN r) (yM r),S,1]:=by
 have a: ∀{x:MV}{xs:Q0} S,yE #[(x::xs),6] _ S=.ok _ S:=λS=>ix_tup (dS (k:=0) rfl);refine eS rfl ?_ (Yf (IO h _)) (λl=>by simp);show zN _=_;refine zY ?_
 cases r with
 |never t qs=>exact xA (by unfold dY yM;exists 7,a,Yc)
 |apart t u qs=>exact zB (by unfold dY yM;simp? [aV];rfl) (xA (by unfold iZ;exists 7,a,Yc))
 |tie t cs u ds=>exact zB (by unfold dY yM;simp? [aV];rfl) (zB (by unfold iZ;simp? [aV];rfl) (by rfl))
theorem Od(ds)(S):HA [#[ds,6]] S=#[ds,S,2]:=rfl
theorem RV(ds)(a b)(S):iI #[ds,6] a b S=.ok #[jA ds a b,6] S:=rfl
abbrev Row:=Nat×List MV
def Cv:Rule->Row->Bool
 |.never t qs,a=>decide ((a.1:Int)=t)&&qs.all (BL [a])
 |_,_=>false
noncomputable def zCO:Rule->Row->Bool
 |.tie t _ _ _,a=>decide ((a.1:Int)=t)
 |_,_=>false
def zCP:Rule->Row->Row->Bool
 |.tie _ cs u ds,a,o=>zDG u ds (bY a cs) o
 |_,_,_=>false
def LL(r:Rule)(a:Row)(os:List Row):Bool:=zCO r a&& !os.any (zCP r a)
abbrev qX(r:Rule):MV:=ob (zCN r) (yM r)
def Vt(h:jK ts r)(m:iG ts a)(S):Hr "bars" 2 vV (qX r) [.val (zQ a)] (Cv r a) S:=by
 cases r with
 |never t qs=>exact (show Hr "bars" 2 vV (ob "Never" (yM (.never t qs))) [.val (zQ a)] (decide ((a.1:Int)=t)&&qs.all (BL [a])) S by
   have c: ∀S,yE (.val (yM (.never t qs))) #[1,5] S=.ok _ S:=λS=>ix_tup rfl;have k: ∀S,yE (.val (yM (.never t qs))) #[2,5] S=.ok _ S:=λS=>ix_tup rfl;refine Z0 _ rfl (nE rfl ?_);show zN (eF [some _,some _] S)=_;unfold eF fO
   cases b:decide ((a.1:Int)=t)with
   |false=>simp? [MS,fN,c,b];rfl
   |true=>
    have e:a.1=t:=by have:=ï b;lia
    have j:zE 2 wK [.new [zQ a],.val _] S=.ok _ S:=Ye (rs1 m e) h.2.2.1 h.2.2.2 S;simp? [MS,fN,c,b,Re,k,j];rfl)
 |apart t u qs=>exact Cr rfl _ S
 |tie t cs u ds=>exact Cr rfl _ S
def Oe(h:jK ts r)(A:iG ts a){os:List Row}(E: ∀o∈os,iG ts o)(K:os.length<1000)(w:S[l1]? =#[os.map zQ,2]):
  LkB (qX r) (zQ a) l1 (LL r a os) S:=by
 cases r with
 |never t qs=>exact VY rfl _ l1 S
 |apart t u qs=>exact VY rfl _ l1 S
 |tie t cs u ds=>exact (show LkB (ob "Tie" (yM (.tie t cs u ds))) (zQ a) l1 (decide ((a.1:Int)=t)&& !os.any (zDG u ds (bY a cs))) S by
   have J: ∀S,yE (.val (yM (.tie t cs u ds))) #[1,5] S=.ok _ S:=λS=>ix_tup rfl;have M: ∀S,yE (.val (yM (.tie t cs u ds))) #[2,5] S=.ok _ S:=λS=>ix_tup rfl;have I: ∀S,yE (.val (yM (.tie t cs u ds))) #[3,5] S=.ok #[(u:Nat),5] S:=λS=>ix_tup rfl;have L: ∀S,yE (.val (yM (.tie t cs u ds))) #[4,5] S=.ok _ S:=λS=>ix_tup rfl;have m: ∀{o:Nat×List MV},iG ts o-> ∀d∈o.2,Vl d:=λ⟨_,_,_,z⟩=>z;have q:cs.length<=3:=h.2.2.2.1;have C:↑13<=3:=by have:=h.2.2.2.2.1;lia
   cases s:decide ((a.1:Int)=t)with
   |false=>
    rw[Bool.false_and];refine⟨iY,rfl,[],?_⟩;rw[aN];show zN (iW (K5 _ (zQ a) l1 none none) S)=_;refine zY (xA ?_);unfold cT;simp? [MS,fT,J,ne_int,s];rfl
   |true=>
    have c:=(VX h A).1 (by have:=ï s;lia);have b:=LK (m A) c;have k:=Old.app S [MO.lst (bY a cs)] _ _ w;have G:(S++[MO.lst (bY a cs)])[↑2]? =#[bY a cs,2]:=by simp
    refine⟨iY,rfl,[.lst (bY a cs)],?_⟩;show zN (iW (K5 _ (zQ a) l1 none none) S)=_;refine zY (zB (by unfold cT;simp? [MS,fT,J,ne_int,s];rfl) (zB (by unfold mH;simp? [fT,M,Cu (m A) q c];rfl) ?_));rw[Bool.true_and];generalize S++[MO.lst (bY a cs)]=S2 at k G
    obtain⟨O,N⟩:=LD (f:=zQ) (ds:=os) (p:=zDG u ds (bY a cs)) (gf:=yG 4) (body:=cS) (λD=> ∃y,D=K5 (ob "Tie" (yM (.tie t cs u ds))) (zQ a) l1 #[↑2] y) (xS k) (λo v D ⟨y,F⟩=>by
     subst F;refine⟨_,rfl,?_⟩;unfold cS nL zDG
     cases B:decide ((o.1:Int)=u)with
     |false=>exact⟨nofun,λ_=>⟨_,⟨_,rfl⟩,by simp? [MS,fT,I,B];rfl⟩⟩
     |true=>
      have j:=(VX h (E o v)).2 (by have:=ï B;lia);simp? [MS,fT,I,B,L,Cu (m (E o v)) C j,Oc G (LK (m (E o v)) j) b];cases decide (bY o ds=bY a cs)
      .exact⟨nofun,λ_=>⟨_,⟨_,rfl⟩,rfl⟩⟩
      .exact⟨λ_=>rfl,nofun⟩) _ ⟨none,rfl⟩
    cases H:os.any _ with
    |true=>exact xA (by unfold cU;exists 7,wR k,O H)
    |false=>
     refine(N H).a λD P e=>?_;obtain ⟨y,rfl⟩:=P;exact zB (by unfold cU;simp? [wR k];exact e) (by rfl))
def pN:Rule->Row->Row->Bool
 |.apart t u qs,a,b=>(decide ((a.1:Int)=t)&&decide ((b.1:Int)=u)&&qs.all (BL [a,b])) || (decide ((b.1:Int)=t)&&decide ((a.1:Int)=u)&&qs.all (BL [b,a]))
 |_,_,_=>false
def Of(h:jK ts r)(j:iG ts a)(c:iG ts b)(S):Hr "parts_them" 3 wL (qX r) [.val (zQ a),.val (zQ b)] (pN r a b) S:=by
 cases r with
 |never t qs=>exact VW rfl _ _ S
 |apart t u qs=>exact (show Hr "parts_them" 3 wL (ob "Apart" (yM (.apart t u qs))) [.val (zQ a),.val (zQ b)] ((decide ((a.1:Int)=t)&&decide ((b.1:Int)=u)&&qs.all (BL [a,b])) || (decide ((b.1:Int)=t)&&decide ((a.1:Int)=u)&&qs.all (BL [b,a]))) S by refine Z0 _ rfl (nE rfl ?_);show zN (xY [some _,some _,some _] S)=_;unfold xY wY;have hs:QU "parts_in_turn" kG (.val (ob "Apart" (yM (.apart t u qs))))=some xB:=rfl;cases k:(decide ((a.1:Int)=t)&&decide ((b.1:Int)=u)&&qs.all _)<;>(simp? [hs,Cs h j c,Cs h c j,k];rfl))
 |tie t cs u ds=>exact VW rfl _ _ S
def Og(S)(x)(a:0<n)(b:n<1073741824):zE 2 zC [.new [.int x],#[n,5]] S=.ok #[x % n,5] S:=zX rfl (by have:=VN (Cd S x) a (rD a b);rwa [RN]at this) (xC _ _) (λl=>by simp)
def zT(ts:Tk)(rls:List Rule)(rs:List Row):MV:=.tup [.tup (ts.map tbl),.tup (rls.map yM),.tup (rs.map zQ)]
theorem EM: ∀{ts}{o},(∀d∈o, ∃r,jK ts r/\d=yM r)-> ∃rls:List Rule,o=rls.map yM/\ ∀r∈rls,jK ts r
 |ts,[],_=>⟨[],rfl,λr h=>by simp at h⟩
 |ts,d::o,h=>by refine(h d mF0).a λr j k=>?_;subst k;refine(EM λe b=>h e (mO _ b)).a λrls m a=>?_;subst m;exact⟨_,rfl,λq c=>(mC.mp c).elim (λe=>e▸j) (a q)⟩
def Vu{rs:List Row}(h:(∀r∈rs,iG ts r))(n):lo n (.tup (rs.map zQ)):=yD (zU λd a=>by refine(mM0.mp a).a λr b j=>?_;subst j;exact YV (h r b) _)
def Oh{rls:List Rule}(h:(∀r∈rls,jK ts r))(n):lo n (.tup (rls.map yM)):=yD (zU λd a=>by refine(mM0.mp a).a λr b j=>?_;subst j;exact IO (h r b) _)
theorem AD(ds)(S):wX [.new ds] S=.ok #[ds,6] S:=rfl
noncomputable abbrev N9(q:MV)(a b c x6 x7 j:R0):Rho:=[some q,#[10,0],#[2,0],a,b,c,x6,x7,j]
def tup3(a b c)(S):wD [.val a,.val b,.val c] S=.ok #[[a,b,c],6] S:=mG (by simp)
theorem Vx(ns:Za)(h:ns.length<=63): ∃ts rls rs,Nu ts/\(∀r∈rls,jK ts r)/\(∀r∈rs,iG ts r)/\↑9<=10/\rls.length<=4/\
  zE 3 uW [.val ↑8,#[10,5],#[2,5]] []=#[zT ts rls rs,[],1]:=by
 obtain⟨c0,h0⟩:=lV ns 0 ↑4 [];refine(Vo c0 []).a λo X hp=>?_;obtain⟨c1,M⟩:=lV ns 1 ↑4 [.lst o];refine(Hm c1 [.lst o]).a λts E ht=>?_;obtain⟨c2,h2⟩:=lV ns 2 ↑4 [.lst o];obtain⟨t,hw⟩:=EF c2 5 ⟨by decide,by decide⟩ [.lst o];refine(bX t (n:=5) ↑4).a λm Q ah=>?_;have s:=Og [.lst o] t (n:=5) ↑4 ↑4;rw[show((5:Nat):Int)=5 from rfl]at Q;rw[Q]at s;refine(EE (I:=λS=>S=[.lst o]) (gf:=yG 0) (cf:=aK) (ef:=jX) (ρb:=[none,some ↑8,#[0],#[ts.map tbl,3]]) (gs:=[]) (S:=[.lst o]) (P:=λy=> ∃r,jK ts r/\y=yM r) (ds:=(List.range m).map λk=>MV.int (k:Nat)) (λd A S1 M=>by subst M;obtain⟨k,Z,rfl⟩:=mM0.mp A;obtain⟨c,F⟩:=lV ns (3+(k:Nat)) #[] [.lst o];obtain⟨r,B,H⟩:=Vr E c (lp:=0) (S:=[.lst o]) X rfl;refine⟨_,yM r,_,rfl,rfl,?_,⟨r,B,rfl⟩,rfl,yT _⟩;unfold jX;exists 7,F,H) rfl).k λout S' q1 ac q2 q3=>?_;subst ac;refine(EM q3).a λrls al u=>?_;subst al;rw[lM0,lM0,ò]at q2;have cs: ∀(a b:M0)(S:Sto),iI (.val ↑8) a b S=#[(jA ns a b).map MV.int,S,2]:=λa b S=>by rw[<-JT];rfl
 have cl: ∀(a b:M0),(jA ns a b).length<=63:=λa b=>ì ((by
   unfold jA;rw[lT,č]
   lia)) h;generalize v:jA ns (some (3+(m:Nat))) none=cc;have Y:cc.length<=63:=by rw[<-v];exact cl _ _
 obtain⟨d2,D⟩:=lV ns 2 ↑4 [.lst o,.lst (cc.map MV.int)];refine(LE d2 6 ⟨by decide,by decide⟩ [.lst o,.lst (cc.map MV.int)]).a λO ae K=>?_;refine(bX O (n:=11) ↑4).a λj U ag=>?_;rw[show((11:Nat):Int)=11 from rfl]at U
 obtain⟨ρ',S',C,J,is,q,G,aa⟩:=fD (gf:=yG 8) (body:=dQ) (gs:=[])
  (λi N S'=> ∃(J:R0)(is:Za),N=N9 ↑8 #[0] #[ts.map tbl,3] #[(m:Nat),0] #[rls.map yM,3] #[1] J/\S'=[.lst o,.lst (is.map MV.int)]/\is.length<=63+i) (λi d hi N S1 ⟨J,is,q,L,hl⟩=>by
   subst q L;obtain⟨k,Z,rfl⟩:=mM0.mp (ë hi);rw[ú]at Z;have af:i<j:=by have:=(gS.mp hi).1;rw[lM0,ò]at this;exact this
   obtain⟨c,F⟩:=lV ns 2 ↑4 [.lst o,.lst (is.map MV.int)];obtain⟨y,_,hy⟩:=LE c (30+(k:Nat)) ⟨by lia,by lia⟩ [.lst o,.lst (is.map MV.int)];refine⟨_,_,?_,yT _,#[(k:Nat),0],is++[1+2 * y],rfl,rfl,by rw[lA,lS];lia⟩;rw[show yG 8 (.int (k:Nat)) _ [.lst o,.lst (is.map MV.int)]=.ok _ [.lst o,.lst (is.map MV.int)]from rfl,aV];unfold dQ aL;simp? [F,hy,tV (show -(2 ^ 64)<(2:Int)/\(2:Int)<2 ^ 64 by decide),kO (S:=[.lst o,.lst (is.map MV.int)]) (l:=1) (ds:=is.map MV.int) rfl,hX (S:=[.lst o,.lst (is.map MV.int)]) (l:=1) (ds:=is.map MV.int) rfl (by rw[lM0];lia)];rw[Ă];rfl) (ZC none cc rfl rfl (by lia))
 subst q G;refine(Vq E (jA is none (some 20)) (w:=10) ⟨by decide,by decide⟩ (lp:=0) (S:=[.lst o,.lst (is.map MV.int)]) X rfl).elim λrs V=>V.e λW _ ab B=>?_;refine(Zv ts rls rs ⟨E,u,W,(by lia),(by lia),zX (T:=[.lst o,.lst (is.map MV.int)]) rfl ?_ ((yD (zU λd A=>by
   simp only[mC,nM,or_false]at A;rcases A with rfl|rfl|rfl
   .exact Nx _
   .exact Oh u _
   .exact Vu W _))) (λl=>by simp[zT])⟩);rw[<-JT]at B;show zN (lQ (N9 ↑8 none none none none none none) [])=_;refine zY ?_;unfold lQ
 refine zB (ρ':=N9 ↑8 #[0] none none none none none) (S':=[.lst o]) (by unfold pA;simp? [h0,hp];rfl) (zB (by unfold pB;simp? [M,ht];rfl) (zB (by unfold pC;simp? [h2,hw,Q7,BU (ds:=[.int 2,.int 3,.int 5,.int 7]) (S:=[.lst o]) (i:=2) (d:=.int 5) rfl,s];rfl) (zB (by
  unfold pD;simp? [cH (S:=[.lst o]) (j:=(m:Nat)) ⟨by lia,by lia⟩,lm (λk=>MV.int (k:Nat)) (List.range m),show∀b c d,WO 1 [0,3,4] [some ↑8,b,c,#[0],#[ts.map tbl,3],#[(m:Nat),0],none,none,d]=[none,some ↑8,#[0],#[ts.map tbl,3]]from λ_ _ _=>rfl,show((m:Nat):Int).toNat=m from rfl,q1,AD];rfl) (zB (S':=[.lst o,.lst (cc.map MV.int)]) (by unfold pE;simp? [cs,v];rfl) (zB (by
  unfold pF;simp? [D,K,mod_lit (show(0:Int)<10+1 by decide),show O % (10+1:Int)=(j:Nat)from U,cH (S:=[.lst o,.lst (cc.map MV.int)]) (j:=(j:Nat)) ⟨by lia,by lia⟩,show((j:Nat):Int).toNat=j from rfl];exact C) ?_)))))
 unfold pG;simp? [tV (show -(2 ^ 64)<(2:Int)/\(2:Int)<2 ^ 64 by decide),show iI #[1,1] none (some (2 * 10:Int)) [.lst o,.lst (is.map MV.int)]=#[jA (is.map MV.int) none (some 20),[.lst o,.lst (is.map MV.int)],2]from rfl,B,tup3];rfl
def LM{β:Type}(T:List β):(List.range (T.length)).filterMap (T[·]?)=T:=by
 induction T with
 |nil=>rfl
 |cons t T ih=>
  rw[lC0,List.range_succ_eq_map,filterMap_cons,List.filterMap_map];show t::List.filterMap (λi=>_[i+1]?) _=_;simp only[List.getElem?_cons_succ];rw[ih]
theorem OQ: ∀{ds},(∀d∈ds,qE d=true)->HB ds=true
 |[],_=>by unfold HB;rfl
 |d::ds,h=>by unfold HB;rw[h d mF0,OQ λx j=>h x (mO _ j)];rfl
abbrev Bk:=List Nat×List Nat
def Pp(b:Bk):MV:=.tup (.str b.1::b.2.map zA)
theorem VZ: ∀(j ms:Db),UE (eqv S (n+1)) (IB S (n+1)) (j.map zA) (ms.map zA)=some (decide (j<ms))
 |[],[]=>rfl
 |[],m::ms=>by rw[dT0 (List.nil_lt_cons m ms)];rfl
 |k::j,[]=>by rw[dF0 (List.not_lt_nil _)];rfl
 |k::j,m::ms=>by
  show((eqv S _ _ _).bind λz=>if z=true then UE _ _ _ _ else IB S _ _ _)=_;show(if decide _=true then _ else _)=_;rw[Ň.mpr List.cons_lt_cons_iff];by_cases h:k=m
  .subst h;rw[VZ j ms];simp
  .rw[iN0 (by rw[é];lia)];show some _=_;congr 1;exact dec_is #[]
def sQ(K:Db)(n):CY n (K.map zA):=zU λd a=>by refine(mM0.mp a).a λi _ b=>?_;subst b;exact xC _ _
section
variable{rls:List Rule}
noncomputable def qV(rs:List Row)(i:Nat):Row:=(rs[i]?).getD (0,[])
def AG(h:i<↑9):qV rs i∈rs:=by unfold qV;rw[gE h];exact Ĩ h
def ZE(h:i<↑9)(S):yE #[rs.map zQ,6] (.val (zA i)) S=#[zQ (qV rs i),S,1]:=ix_tup (dS (by unfold qV;rw[î,gE h];rfl))
theorem LN(S):yE (.val ↑11) #[2,5] S=.ok #[rs.map zQ,6] S:=ix_tup rfl
def RW(h:(∀r∈rls,jK ts r))(k:rls.length<=100)(S):zE 1 fR [.val ↑11] S=#[rls.map qX,S,2]:=fC rfl (by
 show zN (rO [some _] S)=_;have b:zW (yG 0) fQ gX [none] [] _ S=.ok (rls.map qX) S:=kN (yT _) λr a=>(ZB ([some (yM r)]) rfl rfl (by unfold gX;simp? [made (h r a)]))
 have j:eG [some ↑11] S=.ok (.ret (.new (rls.map qX))) S:=by unfold eG;exists 7,(λS=>ix_tup rfl),sP,lm yM rls,b
 unfold rO;rw[j,aN];rfl) ((zU λd c=>by refine(mM0.mp c).a λr a m=>?_;subst m;exact Yf (IO (h r a) _)))
noncomputable def zDH(ts:Tk)(t:Nat):Int:=((ts[t]?).getD (0,0)).2
def MT(ts:Tk)(a:Row):MV:=.tup [zA a.1,.tup (jA a.2 none (some (zDH ts a.1)))]
theorem ZF(h:iG ts a):pd (MT ts a)=true/\LZ (MT ts a)<=2:=by
 refine h.c λp _ _ k=>?_;have c: ∀d∈jA a.2 none (some (zDH ts a.1)),Vl d:=λd b=>k d (UK b);have j:=RK λd b=>(aX (c d b)).1;have m:=RM λd b=>by rw[(aX (c d b)).2];exact à _
 unfold MT zA;refine⟨by rw[LF,qT,qT,LF,j];rfl,?_⟩;rw[EG,qU,qU,LG,RJ,EG]
 lia
def R5(h:iG ts a)(n):lo n (MT ts a):=yD (zU λd b=>by
 refine h.c λp _ _ c=>?_;simp only[mC,nM,or_false]at b;rcases b with rfl|rfl
 .exact xC _ _
 .exact yD (zU λd b=>by
   have:=c d (UK b);rcases this.cases with⟨i,rfl,_⟩|⟨x,rfl,_⟩
   .exact xC _ _
   .exact mB _ _))
theorem R8(h:iG ts a)(S):yE #[ts.map tbl,6] #[a.1,5] S=.ok #[[.int ((ts[a.1]?).getD (0,0)).1,.int (zDH ts a.1)],6] S:=by refine h.c λp b _ _=>?_;refine ix_tup (dS ?_);rw[î];unfold zDH;rw[b];rfl
theorem Yg(S):yE (.val ↑11) #[0,5] S=.ok #[ts.map tbl,6] S:=ix_tup rfl
def tup2(a b)(S):wD [.val a,.val b] S=.ok #[[a,b],6] S:=mG (by simp)
theorem Cw(h:iG ts a)(S):zE 2 EA [#[ts.map tbl,6],.val (zQ a)] S=#[MT ts a,S,1]:=by refine eS rfl ?_ (R5 h _) (λl=>by simp[MT]);show zN (DZ [some _,some _] S)=_;unfold DZ CD;simp? [MS,R8 h,tup2];rfl
def ZG(ts:Tk)(a b:Row):Bool:=decide (MT ts a=MT ts b)
theorem Cy(c:iG ts a)(j:iG ts b)(S):iQ (.val (MT ts a)) (.val (MT ts b)) S=#[.bl (ZG ts a b),S,1]:=Cc (ZF c).1 (ZF j).1 (by have:=(ZF c).2;lia)
noncomputable def Pq(rls:List Rule)(k:Nat):Rule:=(rls[k]?).getD (.tie 0 [] 0 [])
def Cz(h:k<rls.length):Pq rls k∈rls:=by unfold Pq;rw[gE h];exact Ĩ h
theorem Da{α:Type}(f)(l:List α)(g:Nat->α)(b: ∀k  h ,g k=l[k]):UL (l.map f)=(List.range (l.length)).map λi=>.tup [zA i,f (g i)]:=by
 unfold UL;apply Ņ;intro m;by_cases a:m<(l.length)
 .simp only[î,List.getElem?_zipIdx,getElem?_range a,Option.map_some,gE a,Ĳ];rw[b m a];rfl
 .rw[Ď (by rw[lM0,length_zipIdx,lM0];lia),Ď (by rw[lM0,ò];lia)]
theorem Oi(k)(h):Pq rls k=rls[k]:=by unfold Pq;rw[gE h];rfl
end
def Vy(a:S[l]? =#[ds,2])(hz:↑13+zs.length<=1000000):Ud #[l,1] [.new zs] S=#[.non,S.set l (.lst (ds++zs)),1]:=by show MM #[l,1] S (λds=>if ↑13+zs.length<=sizeLine then some _ else none)=_;unfold MM;dsimp only;rw[a];dsimp only;rw[iP (fits hz)]
def zCQ(b)(n):lo n (Pp b):=yD (zU λd a=>by
 rcases mC.mp a with rfl|a
 .exact mB _ _
 .refine(mM0.mp a).a λi _ j=>?_;subst j;exact xC _ _)
def Vz{α:Type}{f:α->MV}{l:List α}{g:Nat->α}(a: ∀k  h ,g k=l[k])(h:S[p]? =#[l.map f,2]):Ls [#[p,1]] S=.ok ⟨(List.range (l.length)).map λi=>.tup [zA i,f (g i)],[(p,l.map f)]⟩ S:=by
 have e:srcOf S #[p,1]=some ⟨true,l.map f,[(p,l.map f)]⟩:=by unfold srcOf;dsimp only;rw[h]
 unfold Ls;dsimp only;rw[e];show R.ok _ S=_;rw[Da f l g a]
def Wa{α:Type}{f:α->MV}{l:List α}{g:Nat->α}(a: ∀k  h ,g k=l[k])(S):Ls [#[l.map f,6]] S=.ok ⟨(List.range (l.length)).map λi=>.tup [zA i,f (g i)],[]⟩ S:=by show R.ok _ S=_;rw[Da f l g a]
noncomputable def Wb:List Nat:=[107,101,121]
section
def ZH(ts:Tk)(rls:List Rule)(rs:List Row)(i j:Nat):List Bk:=((List.range rls.length).filter λk=>pN (Pq rls k) (qV rs i) (qV rs j)).map (λk=>(RU,[i,j,k]))++if ZG ts (qV rs i) (qV rs j)=true then [(Wb,[i,j])]else []
abbrev P7(ts:Tk)(rls:List Rule)(rs:List Row)(lr i j:Nat)(x y z:R0):Rho:=[some ↑11,#[lr],some (zA i),some (zA j),x,y,z]
theorem zCR(u:(∀r∈rls,jK ts r))(A:(∀r∈rs,iG ts r))(s:rls.length<=100)(hi:i<↑9)(B:j<↑9)(w:S[lr]? =#[rls.map qX,2]):
  zE 4 nN [.val ↑11,#[lr,1],.val (zA i),.val (zA j)] S=#[(ZH ts rls rs i j).map Pp,S,2]:=by
 have m:=A _ (AG hi);have q:=A _ (AG B);have a:(((List.range rls.length).map λk=>MV.tup [zA k,qX (Pq rls k)]).length<1000000)=True:=eq_true (by rw[lM0,ò];lia)
 have v:zW (PZ 2 (yC (yG 0) (yC (yG 1) aU))) xN xO [none,none,some (zA i),some (zA j),some (zQ (qV rs i)),some (zQ (qV rs j))] [(lr,rls.map qX)] ((List.range rls.length).map λk=>MV.tup [zA k,qX (Pq rls k)]) S=.ok (((List.range rls.length).filter λk=>pN (Pq rls k) (qV rs i) (qV rs j)).map λk=>Pp (RU,[i,j,k])) S:=yL (xS w) λk c=>by
  rw[ú]at c;refine(Of (u _ (Cz c)) m q S).a λF G E=>?_;refine ZB _ rfl ?_ ?_
  .unfold xN;simp? [G,E]
  .unfold xO;exists 7,zCM
 generalize o:(((List.range rls.length).filter λk=>pN (Pq rls k) (qV rs i) (qV rs j)).map λk=>Pp (RU,[i,j,k]))=ps at v;have C:ps.length<=100:=by rw[<-o,lM0];exact ì (ÿ _ _) (by rw[ò];exact s)
 have e:(ZH ts rls rs i j).map Pp=ps++if ZG ts (qV rs i) (qV rs j)=true then [Pp (Wb,[i,j])]else []:=by unfold ZH;rw[Ă,ą, <-o];split<;>rfl
 have y:(S++[MO.lst ps])[↑2]? =#[ps,2]:=by simp
 refine EK (T:=[.lst ((ZH ts rls rs i j).map Pp)]) rfl rfl ?_ (.inr ⟨_,rfl,à _,by simp⟩) ((zU λd D=>by refine(mM0.mp D).a λb _ I=>?_;subst I;exact zCQ b _));show zN (jO (P7 ts rls rs lr i j none none none) S)=_;unfold jO;refine zY (zB (by unfold bA;simp? [LN,ZE hi];rfl) (zB (by unfold bB;simp? [LN,ZE B];rfl) (zB (by unfold bC;simp? [Vz Oi w,a];erw [v];rfl) (zB (ρ':=P7 ts rls rs lr i j (some (zQ (qV rs i))) (some (zQ (qV rs j))) #[↑2]) ?_ rfl))));rw[e];unfold bD
 cases c:ZG ts (qV rs i) (qV rs j)with
 |false=>simp? [Yg,Cw m,Cw q,Cy m q,c,fT0,iF,aN]
 |true=>
  simp? [Yg,Cw m,Cw q,Cy m q,c,kO y,tup3,hX y #[]];rw[show List.set (S++[MO.lst ps]) ↑2 _=S++[MO.lst (ps++[Pp (Wb,[i,j])])] by simp[Pp,Wb]]
end
noncomputable def LO(a:Db)(k:Nat):Nat:=(a[k]?).getD 0
def Ht{α β:Type}(g)(l:List α): ∀(b:List β),l.foldl (λb i=>b++g i) b=b++l.flatMap g:=by
 induction l with
 |nil=>intro b;simp
 |cons x l ih=>intro b;rw[ĕ,ih,List.flatMap_cons,aA]
noncomputable def wQ:List Nat->List (Nat×Nat)
 |[]=>[]
 |x::t=>t.map (λj=>(x,j))++wQ t
theorem WA: ∀ k ,(List.range k.length).flatMap (λp=>(k.drop (p+1)).map λj=>(LO k p,j))=wQ k
 |[]=>rfl
 |x::t=>by rw[lC0,List.range_succ_eq_map,List.flatMap_cons,List.flatMap_map];rw[show wQ _=t.map (λj=>_)++wQ t from rfl, <-WA t];rfl
theorem pairs_len: ∀ k ,(wQ k).length<=k.length * k.length
 |[]=>à _
 |x::t=>by
  have m:=pairs_len t;rw[show wQ _=t.map (λj=>_)++wQ t from rfl,lA,lM0,lC0]
  lia
theorem OR: ∀{k}{p},p∈wQ k->p.1∈k/\p.2∈k
 |x::t,p,h=>by
  rcases ç.mp h with h|h
  .refine(mM0.mp h).a λj m a=>?_;subst a;exact⟨mF0,mO _ m⟩
  .have:=OR h;exact⟨mO _ this.1,mO _ this.2⟩
def WB(p:Nat×Nat):MV:=.tup [zA p.1,zA p.2]
abbrev G4(a:Db)(l:Nat)(x y:R0):Rho:=[#[a.map zA,3],#[l],x,y]
theorem Wc(H:sm.length<=200)(S):zE 1 CC [#[sm.map zA,6]] S=#[(wQ sm).map WB,S,2]:=by
 refine(uY (f:=λp=>.tup [zA p,zA (LO sm p)]) (gf:=PZ 2 (yC (yG 2) (yC (yG 3) aU))) (body:=gZ) (gs:=[]) (λk (b:List (Nat×Nat)) A S'=>(∃x y,A=G4 sm ↑2 x y)/\S'=S++[.lst (b.map WB)]/\b.length<=k * 200) (λb p=>b++(sm.drop (p+1)).map λj=>(LO sm p,j)) (ds:=List.range sm.length) 0 (λj p F b A G ⟨⟨x,y,a⟩,s,B⟩=>by
  subst a s;obtain⟨u,c⟩:=gS.mp F;rw[ò]at u;rw[List.getElem_range]at c;subst c;have v:(S++[MO.lst (b.map WB)])[↑2]? =#[b.map WB,2]:=by simp
  have C:zW (yG 0) fS gY [none,some (zA (LO sm j))] [] _ (S++[.lst (b.map WB)])=.ok ((sm.drop (j+1)).map λq=>WB (LO sm j,q)) (S++[.lst (b.map WB)]):=kN (yT _) λq _=>⟨_,rfl,rfl,by unfold gY;simp? [tup2];rfl⟩
  have m:jA (sm.map zA) (some ((j:Nat)+1)) none=(sm.drop (j+1)).map zA:=by rw[JT,show((j:Nat):Int)+1=((j+1:Nat):Int)from rfl,GI]
  have E:((sm.drop (j+1)).map λq=>WB (LO sm j,q)).length<=200:=by rw[lM0,č];lia
  refine⟨G4 sm ↑2 (some (zA j)) (some (zA (LO sm j))),_,?_,yT _,⟨_,_,rfl⟩,rfl,by rw[lA,lM0,č];rw[show(0+j+1) * 200=(0+j) * 200+200 by lia];omega⟩;show gZ _ _=_;unfold gZ fU;simp? [kO v,show∀S,yF (.val (zA j)) #[1,5] S=.ok _ S from λ_=>rfl,RV,m,sP,lm zA (sm.drop (j+1))];erw [C];simp? [Vy (zs:=(sm.drop (j+1)).map λq=>WB (LO sm j,q)) v (by rw[lM0 (as:=b)];lia)];refine qq Ă (qq ą ?_);refine qq (show List.set (S++[MO.lst (b.map WB)]) ↑2 _=S++[MO.lst (b.map WB++(sm.drop (j+1)).map λq=>WB (LO sm j,q))] by simp) ?_;rfl) [] (G4 sm ↑2 none none) (S++[.lst []]) ⟨⟨_,_,rfl⟩,rfl,zero_le _⟩).k λρ' S' f I o _=>?_;obtain ⟨x,y,a⟩:=I
 subst a o;rw[Ht,Œ,WA]at f;refine EK (T:=[.lst ((wQ sm).map WB)]) (S2:=S) rfl rfl ?_ (.inr ⟨↑2,rfl,à _,by simp⟩) (zU λd D=>by refine(mM0.mp D).a λp _ J=>?_;subst J;exact yD (zU λe w=>by simp only[mC,nM,or_false]at w;rcases w with rfl|rfl<;>exact xC _ _));show zN _=_;unfold CB;exact zY (zB (ρ':=G4 sm ↑2 none none) (S':=S++[.lst []]) rfl (zB (by unfold rS;simp? [Wa (f:=zA) (l:=sm) (g:=LO sm) (λk h=>by unfold LO;refine qq (gE h) ?_;rfl)];exact f) (by rfl)))
abbrev kd(K:Db):List (MV×MV):=K.map λi=>(zA i,MV.bl true)
theorem Dc(k)(K):kd (k::K)=(zA k,.bl true)::kd K:=rfl
def S9(A B):kd (A++B)=kd A++kd B:=Ă
theorem We(K):(kd K).map (·.1)=K.map zA:=by rw[ą];rfl
theorem ky(i):AR (zA i)=true:=rfl
def AH(h:zA a=zA b):a=b:=by
 unfold zA at h;injection h with h
 lia
def De{K:Db}(h:S[l]? =#[kd K,7]):BV S #[l,1]=some (l,kd K):=by unfold BV;dsimp only;rw[h];exact iP ((by rw[ă];intro p a;refine(mM0.mp a).a λi _ b=>?_;subst b;rfl))
theorem RX: ∀ K  i ,look (kd K) (zA i)=if i∈K then some (.bl true)else none
 |[],i=>by rw[iN0 (by simp)];rfl
 |k::K,i=>by
  rw[Dc,vR];by_cases h:k=i
  .subst h;rw[iP rfl,iP (by simp)]
  .rw[iN0 (λz=>h (AH z)),RX K i];by_cases j:i∈K
   .rw[iP j,iP (mO _ j)]
   .rw[iN0 j,iN0 (λz=>(mC.mp z).elim (λe=>h e.symm) j)]
theorem WC(K)(i):(look (kd K) (zA i)).isSome=decide (i∈K):=by
 rw[RX];by_cases h:i∈K
 .rw[iP h,dT0 h];rfl
 .rw[iN0 h,dF0 h];rfl
def Oj{K:Db}(h:S[l]? =#[kd K,7])(neg)(i):KG neg (.val (zA i)) #[l,1] S=#[.bl (if neg=true then !decide (i∈K)else decide (i∈K)),S,1]:=by unfold KG;rw[De h];show(if AR _=true then _ else _)=_;rw[iP (ky i),WC]
theorem T1(K)(i):putK (kd K) (zA i) (.bl true)=kd (if i∈K then K else K++[i]):=by
 unfold putK;rw[WC];by_cases h:i∈K
 .rw[dT0 h,iP h];rw[ą];refine map_congr_left λk _=>?_;show(if zA k=zA i then _ else _)=_;split<;>rfl
 .rw[dF0 h,iN0 h,S9];rfl
def T2(K)(i):Mu (kd K) (zA i)=kd (K.filter λk=>!decide (k=i)):=by
 unfold Mu;rw[List.filter_map];congr 1;refine ŕ λk _=>?_;show(!decide _)=_;by_cases h:k=i
 .subst h;rw[dT0 rfl,dT0 rfl]
 .rw[dF0 h,dF0 λz=>h (AH z)]
def T4{K:Db}(h:S[l]? =#[kd K,7])(i): ∃d,OD #[l,1] [.val (zA i),.val .non] S=#[d,S.set l (.dic (kd (K.filter λk=>!decide (k=i)))),1]:=by
 unfold OD;rw[De h];show∃d,(if AR _=true then _ else _)=_;rw[RX,T2];by_cases hi:i∈K
 .rw[iP hi];exact⟨_,rfl⟩
 .rw[iN0 hi];have e:(K.filter λk=>!decide _)=K:=Ŗ.mpr λk a=>by rw[dF0 (show¬k=i from λz=>hi (z▸a))];rfl
  rw[e,set_same h];exact⟨_,rfl⟩
theorem Wf{K:Db}(h:S[l]? =#[kd K,7]):KI #[l,1] S=true:=by unfold KI;rw[De h];rfl
theorem WD: ∀ K ,rH (K.map λi=>.tup [zA i,.bl true])=some (kd K)
 |[]=>rfl
 |k::K=>by rw[í];unfold rH;rw[WD K];rfl
theorem Df: ∀ K A ,(A++K).Nodup->(kd K).foldl (λj p=>putK j p.1 p.2) (kd A)=kd (A++K)
 |[],A,_=>by rw[aN];rfl
 |k::K,A,h=>by
  rw[Dc,ĕ];have m:=λa=>by have:=(ĸ.mp h).2.2 k a k mF0;exact this rfl
  rw[T1,iN0 m,Df K _ (by rw[aA];exact h),aA];rfl
theorem T7{K:Db}(h:K.Nodup)(S):Bu [.new (K.map λi=>.tup [zA i,.bl true])] S=.ok #[S.length,1] (S++[.dic (kd K)]):=by show(match (wN S _).bind rH with |some kvs=>R.ok _ _|none=>.no)=_;rw[show(wN S (.new _)).bind rH=some _ from WD K];show R.ok _ _=_;unfold Xz;rw[show((kd K).foldl (λa p=>putK a p.1 p.2) [])=kd _ from Df K [] (by simpa using h)];rfl
def T9{K:Db}(h:S[l]? =#[kd K,7]):OG [#[l,1]] S=.ok #[K.map zA,6] S:=by unfold OG;dsimp only;rw[De h];show R.ok _ S=_;rw[We]
theorem vC: ∀(K:Db),intsOf (K.map zA)=some (K.map Int.ofNat)
 |[]=>rfl
 |k::K=>by show(intsOf _).map _=_;rw[vC K];rfl
theorem AI{S S':Sto}(h: ∀(m:Nat) o ,S[m]? =some o->S'[m]? =some o):↑2<=S'.length:=by
 by_cases z:↑2=0
 .lia
 .have a:↑2 - 1<S.length:=by lia
  have:=(gS.mp (h _ _ (gE a))).1
  lia
def Dg(h: ∀(m:Nat) o ,S[m]? =some o->S'[m]? =some o):UD S S':=⟨AI h,λl a=>.inl (by rw[h l _ (gE a),gE a])⟩
theorem Old.set(h:Old S S')(b:↑2<=l)(o):Old S (S'.set l o):=λm u a=>by have:=(gS.mp a).1;rw[ñ #[]];exact h m u a
def Old.trans(h:Old S S')(h':Old S' S''):Old S S'':=λm o e=>h' m o (h m o e)
theorem Old.is(h:Old S S'): ∃T,S'=S++T:=by
 refine⟨S'.drop ↑2,?_⟩
 have e:S'.take ↑2=S:=by
  apply Ņ;intro m;by_cases a:m<↑2
  .rw[Ŋ a,h m _ (gE a),gE a]
  .rw[Ď (by rw[lT];lia),Ď #[]]
 conv=>lhs;rw[<-List.take_append_drop ↑2 S',e]
inductive TsAt(S:Sto):List MV->List (Nat×List Nat)->Prop
 |nil:TsAt S [] []
 |cons {p i:Nat} {srv:Db} {ms:Q0} {tk:List (Nat×List Nat)}:S[p]? =#[srv.map zA,2]->srv.length<=100->TsAt S ms tk->TsAt S (.tup [zA i,.loc p]::ms) ((i,srv)::tk)
def TsAt.mono(h:TsAt S ms tk)(o: ∀ m  ds ,S[m]? =#[ds,2]->(∃i,MV.tup [i,.loc m]∈ms)->S'[m]? =#[ds,2]):TsAt S' ms tk:=by
 induction h with
 |nil=>exact .nil
 |@cons p i srv ms tk h1 h2 _ ih=>exact .cons (o _ _ h1 ⟨_,mF0⟩) h2 (ih λm ds e ⟨j,a⟩=>o m ds e ⟨j,mO _ a⟩)
def TsAt.snoc(h:TsAt S ms tk)(b:S[p]? =#[srv.map zA,2])(a:srv.length<=100):TsAt S (ms++[.tup [zA i,.loc p]]) (tk++[(i,srv)]):=by
 induction h with
 |nil=>exact .cons b a .nil
 |cons h1 h2 _ ih=>exact .cons h1 h2 ih
def TsAt.length(h:TsAt S ms tk):ms.length=tk.length:=by
 induction h with
 |nil=>rfl
 |cons _ _ _ ih=>rw[lC0,lC0,ih]
def TsAt.shape(h:TsAt S ms tk): ∀d∈ms, ∃i p,d=.tup [zA i,.loc p]:=by
 induction h with
 |nil=>intro d a;cases a
 |@cons p i srv ms tk h1 h2 _ ih=>intro d a;rcases mC.mp a with e|e;(· exact⟨i,p,e⟩);(· exact ih d e)
section
variable{rls:List Rule}
def Om(b:(∀r∈rls,jK ts r))(s:r∈rls)(m:iG ts a){os:List Row}(q: ∀o∈os,iG ts o)(j:os.length<1000)(S):
  ∃F,QU "lacks" qH (.val (qX r))=some F/\zE 3 F [.val (qX r),.val (zQ a),.new (os.map zQ)] S=#[.bl (LL r a os),S,1]:=by
 have g:(S++[MO.lst (os.map zQ)])[↑2]? =#[os.map zQ,2]:=by simp
 obtain⟨F,k,T,c⟩:=Oe (b r s) m q j g;exact Z0 F k (Co rfl (by show F [qX r,zQ a,.loc ↑2] (S++[.lst _])=_;rw[c,aA]))
def Hw(rs:List Row)(r:Rule)(i:Nat):List Nat:=(List.range ↑9).filter λj=>!LL r (qV rs i) [qV rs j]
def On(rs:List Row)(r:Rule)(i:Nat):List (Nat×List Nat):=if LL r (qV rs i) []=true then [(i,Hw rs r i)]else []
end
section
variable{rls:List Rule}
structure TI(S0:Sto)(tk:List (Nat×List Nat))(c:Nat)(S':Sto):Prop where
 ex: ∃ms,S'[S0.length]? =#[ms,2]/\TsAt S' ms tk/\ ∀p i,MV.tup [i,.loc p]∈ms->S0.length<p
 old:Old S0 S'
 len:tk.length<=c
noncomputable abbrev T5(b:MV)(l:Nat)(x y z:R0):Rho:=[some b,#[l],x,y,z]
def WF(S):Ls [#[rs.map zQ,6]] S=.ok ⟨(List.range ↑9).map λi=>.tup [zA i,zQ (qV rs i)],[]⟩ S:=by show R.ok _ S=_;rw[(show UL (rs.map zQ)=(List.range ↑9).map λi=>.tup [zA i,zQ (qV rs i)] by
  unfold UL;apply Ņ;intro m;by_cases a:m<↑9
  .simp only[î,List.getElem?_zipIdx,getElem?_range a,Option.map_some,Ĳ];unfold qV;rw[gE a];rfl
  .rw[Ď (by rw[lM0,length_zipIdx,lM0];lia),Ď (by rw[lM0,ò];lia)])]
def Oo(a:(∀r∈rls,jK ts r))(c:(∀r∈rs,iG ts r))(s:r∈rls)(hi:i<↑9)(S):
  zW (PZ 2 (yC (yG 0) (yC (yG 1) aU))) cV mI [none,none,some (qX r),some (zQ (qV rs i))] [] ((List.range ↑9).map λi=>.tup [zA i,zQ (qV rs i)]) S=.ok ((Hw rs r i).map zA) S:=
 yL (yT _) λj k=>by rw[ú]at k;refine(Om a s (c _ (AG hi)) (os:=[qV rs j]) (λo h=>by rw[mS.mp h];exact c _ (AG k)) (show 1<1000 by decide) S).a λF q m=>?_;refine ZB _ rfl ?_ rfl;have b:zE 3 F [.val _,.val _,.new [zQ _]] S=.ok _ S:=m;unfold cV;simp? [G3,q,b]
theorem Oq(k:(∀r∈rls,jK ts r))(C:(∀r∈rs,iG ts r))(H:↑9<=100)(y:r∈rls)(hi:i<↑9)(K:c<100000)(h:TI S0 tk c S):
  ∃S',gK (T5 ↑11 S0.length (some (qX r)) (some (zA i)) (some (zQ (qV rs i)))) S=#[T5 ↑11 S0.length (some (qX r)) (some (zA i)) (some (zQ (qV rs i))),S',0]/\TI S0 (tk++On rs r i) (c+1) S':=by
 refine(Om k y (C _ (AG hi)) (os:=[]) (λo h=>by cases h) ↑4 S).a λF B I=>?_;have a:zE 3 F [.val (qX r),.val _,.new []] S=.ok _ S:=I;unfold On
 cases G:LL r (qV rs i) []with
 |false=>
  rw[G]at a;refine⟨S,?_,by rw[iN0 xF0,aN];exact⟨h.ex,h.old,by have:=h.len;lia⟩⟩;unfold gK cW;simp? [Lr,B,a];rfl
 |true=>
  rw[G]at a;rw[iP rfl];refine h.ex.c λw q E A=>?_;have u:S0.length<S.length:=(gS.mp q).1;have v:(Hw rs r i).length<=100:=ì (ÿ _ _) (by rw[ò];exact H);have s:(S++[MO.lst ((Hw rs r i).map zA)])[S0.length]? =#[w,2]:=by rw[è u];exact q
  refine⟨(S++[MO.lst ((Hw rs r i).map zA)]).set S0.length (.lst (w++[.tup [zA i,.loc ↑2]])),?_,?_⟩
  .unfold gK cW;simp? [Lr,B,a,kO q,LN,WF,lm (λi=>MV.tup [zA i,zQ (qV rs i)]) (List.range ↑9)];erw [Oo k C y hi];simp? [aV];rw[show wD [.val (zA i),.new _] S=.ok #[[zA i,.loc ↑2],6] (S++[.lst _])from mG (by simp)];simp? [hX s (by rw[E.length];have:=h.len;lia)]
  .have D:Old S (S++[MO.lst ((Hw rs r i).map zA)]):=Old.app _ _;refine⟨(ZB _ (Ā (by rw[lA];lia)) ?_ (λp j b=>?_)),(h.old.trans D).set (à _) _,by rw[lA,lS];have:=h.len;lia⟩
   .refine TsAt.snoc (E.mono λm L e ⟨j,J⟩=>?_) ?_ v
    .rw[ñ (by have:=A m j J;lia)];exact D m _ e
    .rw[ñ #[]];simp
   .rcases ç.mp b with b|b
    .exact A p j b
    .have:=mS.mp b;injection this with this
     injection this with _ this
     injection this with this _
     injection this with this
     lia
end
section
def tG(rls:List Rule)(rs:List Row):List (Nat×List Nat):=rls.foldl (λb r=>(List.range ↑9).foldl (λb i=>b++On rs r i) b) []
def Yh(S:Sto)(r:Er)(tk:List (Nat×List Nat)):Prop:=(r=.new []/\tk=[])\/ ∃l a,r=#[l,1]/\S[l]? =#[a,2]/\TsAt S a tk
theorem Os(D:(∀r∈rls,jK ts r))(U:(∀r∈rs,iG ts r))(L:↑9<=100)(K:rls.length<=100)(S):
  ∃r S',zE 1 cI [.val ↑11] S=.ok r S'/\Old S S'/\Yh S' r (tG rls rs)/\(tG rls rs).length<=100000:=by
 refine(uY (f:=qX) (gf:=yG 2) (body:=dZ) (λk b A s=>(∃x y z,A=T5 ↑11 ↑2 x y z)/\TI S b (k * ↑9) s) (λb r=>(List.range ↑9).foldl (λb i=>b++On rs r i) b) 0 (λj r E b A s ⟨⟨x,y,z,a⟩,I⟩=>by subst a;have hr:r∈rls:=ë E;have u:=(gS.mp E).1;have hb:(0+j) * ↑9<=50000:=ì (mul_le_mul (show 0+j<=100 by lia) L) ↑4;obtain⟨ρ',S',J,⟨Y,Z,rfl⟩,q⟩:=uY (f:=λi=>.tup [zA i,zQ (qV rs i)]) (gf:=PZ 2 (yC (yG 3) (yC (yG 4) aU))) (body:=gK) (gs:=[]) (λk b A s=>(∃y z,A=T5 ↑11 ↑2 (some (qX r)) y z)/\TI S b k s) (λb i=>b++On rs r i) ((0+j) * ↑9) (λj i E b A s ⟨⟨y,z,a⟩,I⟩=>by subst a;obtain⟨u,w⟩:=gS.mp E;rw[ò]at u;rw[List.getElem_range]at w;subst w;obtain⟨S',W,O⟩:=Oq D U L hr u #[] I;exact⟨_,S',W,yT _,⟨_,_,rfl⟩,O⟩) b _ s ⟨⟨_,_,rfl⟩,I⟩;rw[ò]at q;refine⟨T5 ↑11 ↑2 (some (qX r)) Y Z,S',?_,yT _,⟨_,_,_,rfl⟩,by rw[show(0+j+1) * ↑9=(0+j) * ↑9+↑9 by rw[Nat.add_mul,Nat.one_mul]];exact q⟩;show dZ _ s=_;unfold dZ mK;simp? [LN,WF];exact J) [] _ (S++[.lst []]) ⟨⟨none,none,none,rfl⟩,⟨⟨[],by simp,.nil,λp i h=>by cases h⟩,Old.app _ _,zero_le _⟩⟩).b λρ' S' J V q=>?_;obtain ⟨x,y,z,a⟩:=V;subst a;have P:cI [zT ts rls rs] S=.ok #[↑2,1] S':=by show zN _=_;unfold FP;exact zY (zB (ρ':=T5 ↑11 ↑2 none none none) rfl (zB (by unfold uG;simp? [RW D K,lU];exact J) (by rfl)))
 have c:(tG rls rs).length<=100000:=ì q.len (ì (mul_le_mul (show 0+rls.length<=100 by lia) L) ↑4);refine q.ex.c λF M H T=>?_;have v:zE 1 cI [.val ↑11] S=gI S #[↑2,1] S':=by unfold zE;rw[iP (show [Er.val ↑11].length=1 from rfl)];show((noX (cI [zT ts rls rs] S)).bind λr X=>gI S r X)=_;rw[P,rB,aV]
 rw[v];unfold gI;rw[iP (Dg q.old)];dsimp only;rw[iN0 (ĝ _),M];dsimp only;by_cases B:F=[]
 .subst B;refine Zr (.new []) _ (by rw[iP (zU λd Q=>by cases Q)]) (λm o B=>by rw[Ŋ (gS.mp B).1];exact (q.old) m o B) (.inl ⟨rfl,?_⟩) c;have:=H.length;exact List.eq_nil_of_length_eq_zero this.symm
 .refine(Zr _ S' (by
   rw[iN0];intro C
   cases F with
   |nil=>exact B rfl
   |cons d r=>
    refine(H.shape d mF0).j λi p ac=>?_;subst ac;have hp:=T p _ mF0;unfold CY at C;have G:=C.1;unfold lo at G;unfold CY at G;have N:=G.2;unfold CY at N;have h3:=N.1;unfold lo at h3
    lia) q.old (.inr (ZC (↑2) F rfl M H)) c)
end
def RY(tk:List (Nat×List Nat))(K:Db):List Nat:=(tk.filter λt=>decide (t.1∈K)&& !t.2.any λj=>decide (j∈K)).map (·.1)
def Wg{K:Db}(b:S[lk]? =#[kd K,7])(hs:stay gs S)(h:TsAt S ms tk):
  zW (PZ 2 (yC (yG 0) (yC (yG 1) aU))) yY gC [none,none,#[lk]] gs ms S=.ok ((RY tk K).map zA) S:=by
 induction h with
 |nil=>rfl
 |@cons p i srv ms tk h1 h2 _ ih=>
  have m:yY [some (zA i),#[p],#[lk]] S=.ok (decide (i∈K)&& !srv.any λj=>decide (j∈K)) S:=by
   unfold yY
   cases hi:decide (i∈K)with
   |false=>simp? [Oj b,hi];rfl
   |true=>
    simp? [Oj b,hi,(show zE 2 rW [#[lk,1],#[p,1]] S=#[.bl (srv.any λj=>decide (j∈K)),S,1] by
      refine nE rfl ?_;show zN (rV [some _,some _,none] S)=_;obtain⟨s,c⟩:=LD (p:=λj=>decide (j∈K)) (gf:=yG 2) (body:=bE) (λo=> ∃y,o=[#[lk],#[p],y]) (xS h1) (λj _ o ⟨y,k⟩=>by subst k;refine(ZB ([some _,some _,some (zA j)]) rfl (λh=>?_) (λh=>⟨[some _,some _,some (zA j)],⟨_,rfl⟩,?_⟩))<;>(unfold bE cJ;simp? [Oj b,h];rfl)) [some _,some _,none] ⟨_,rfl⟩;refine zY ?_
      cases a:srv.any λj=>decide (j∈K)with
      |true=>exact xA (by unfold bF;simp? [wR h1];exact s a)
      |false=>
       refine(c a).a λq u c=>?_;obtain ⟨y,rfl⟩:=u;exact zB (by unfold bF;simp? [wR h1];exact c) (by rfl))];rfl
  unfold RY at ih ⊢
  cases a:(decide (i∈K)&& !srv.any λj=>decide (j∈K))with
  |true=>rw[List.filter_cons_of_pos (by exact a)];exact LC rfl (m.trans (by rw[a])) rfl hs ih
  |false=>rw[List.filter_cons_of_neg (by rw[a];exact xF0)];exact Ca rfl (m.trans (by rw[a])) hs ih
def WG{K:Db}(b:S[lk]? =#[kd K,7])(a:S[lt]? =#[ms,2])(h:TsAt S ms tk)(j:tk.length<=100000):zE 2 bH [#[lt,1],#[lk,1]] S=#[(RY tk K).map zA,S,2]:=fC rfl (by
 show zN (bG [some _,some _] S)=_;have c:kH [#[lt],#[lk]] S=.ok (.ret (.new ((RY tk K).map zA))) S:=by unfold kH;exists 7,wR a,show _=True from eq_true (by rw[h.length];lia),Wg b (xS a) h
 unfold bG;rw[c,aN];rfl) (sQ _ _)
def ZI{K:Db}:i∈RY tk K↔i∈K/\ ∃m,(i,m)∈tk/\ ∀j∈m,j∉K:=by
 unfold RY;rw[mM0];constructor
 .rintro⟨⟨k,m⟩,a,rfl⟩;rw[æ,aE,é,ė,ŀ]at a;exact⟨a.2.1,m,a.1,λj b=>by have:=a.2.2 j b;rwa [é]at this⟩
 .rintro⟨hi,m,a,hs⟩;refine⟨(i,m),?_,rfl⟩;rw[æ,aE,é,ė,ŀ];exact⟨a,hi,λj b=>by rw[é];exact hs j b⟩
noncomputable abbrev W5(a b:MV)(c:Nat)(u x:R0):Rho:=[some a,some b,#[c],u,x]
theorem zCT{U:Db}(m:lk≠lu): ∀(j:Db) K  S  x ,S[lk]? =#[kd K,7]->S[lu]? =#[U.map zA,2]->
  ∃x',dU (yG 4) wF [(lu,U.map zA)] (j.map zA) (W5 a b lk #[lu] x) S=#[W5 a b lk #[lu] x',S.set lk (.dic (kd (K.filter λk=>!decide (k∈j)))),0]
 |[],K,S,x,hk,hu=>by
  refine⟨x,?_⟩;have e:(K.filter λk=>!decide (k∈([]:Db)))=K:=Ŗ.mpr λk _=>by simp
  rw[e,set_same hk];rfl
 |u::j,K,S,x,hk,hu=>by
  obtain⟨d,w⟩:=T4 hk u;have v:wF (W5 a b lk #[lu] (some (zA u))) S=#[W5 a b lk #[lu] (some (zA u)),S.set lk (.dic (kd (K.filter λk=>!decide (k=u)))),0]:=by unfold wF bK;exists 7,Wf hk,w
  have o:(S.set lk _)[lk]? =some (.dic (kd (K.filter λk=>!decide (k=u)))):=get_set hk;have c:(S.set lk (.dic (kd (K.filter λk=>!decide (k=u)))))[lu]? =#[U.map zA,2]:=by rw[xK m];exact hu
  obtain⟨x',h'⟩:=zCT m j _ _ _ o c;refine⟨x',?_⟩;rw[í,tW rfl v (xS c),h',ě,filter_filter];congr 5;funext k;by_cases q:k=u
  .subst q;simp
  .by_cases s:k∈j<;>simp[q,s]
def gF(tk:List (Nat×List Nat))(A K:Db):Prop:=(∃p,K=A.filter p)/\RY tk K=[]/\ ∀P:Nat->Prop,(∀i,P i->i∈A)->(∀t∈tk,P t.1-> ∃j∈t.2,P j)-> ∀i,P i->i∈K
theorem Hx(G:S3[lt]? =#[ms,2])(hT:TsAt S3 ms tk)(hl:tk.length<=100000):
  ∀ n  K  S  v  x ,K.length<n->Old S3 S->S[S3.length]? =#[kd K,7]->S3.length<v->S[v]? =#[(RY tk K).map zA,2]->
   ∃B N x' S',eX kI nO n (W5 (.loc lt) b S3.length #[v] x) S=#[W5 (.loc lt) b S3.length N x',S',0]/\Old S3 S'/\S'[S3.length]? =#[kd B,7]/\gF tk K B:=by
 intro n
 induction n with
 |zero=>intro K S v x h;lia
 |succ n ih=>
  intro K S v x hn T M Z L;have A:kI (W5 (.loc lt) b S3.length #[v] x) S=.ok (!((RY tk K).map zA).isEmpty) S:=by unfold kI;exists 7,(by unfold lX;dsimp only;rw[L])
  cases C:RY tk K with
  |nil=>
   rw[C]at A;refine Zw K _ x S ⟨Ft A,T,M,⟨λ_=>true,(Ŗ.mpr λ_ _=>rfl).symm⟩,C,(λP y _ i hi=>y i hi)⟩
  |cons u us=>
   rw[C]at A;obtain⟨x',I⟩:=zCT #[] (RY tk K) K S x M L;have a:(S.set S3.length (.dic (kd (K.filter λk=>!decide (k∈RY tk K)))))[S3.length]? =some _:=get_set M;have c:Old S3 (S.set S3.length (.dic (kd (K.filter λk=>!decide (k∈RY tk K))))):=T.set (à _) _;generalize o:(K.filter λk=>!decide (k∈RY tk K))=K1 at I a c;generalize S.set S3.length _=S1 at I a c;have w:S3.length<S1.length:=(gS.mp a).1;have H: ∀i∈RY tk K,i∈K:=λi hi=>(ZI.mp hi).1
   have O:K1.length<K.length:=by
    rw[<-o];have s:u∈RY tk K:=by rw[C];exact mF0
    refine Nat.lt_of_le_of_ne (ÿ _ _) λe=>?_;have:=List.length_filter_eq_length_iff.mp e u (H u s);rw[dT0 s]at this;cases this
   refine(ih K1 (S1++[.lst ((RY tk K1).map zA)]) S1.length x' #[] (c.trans (Old.app _ _)) (Old.app _ _ _ _ a) w (by simp)).q λB N E S' w1 w2 w3 V Y W=>?_;obtain ⟨p,F⟩:=V;refine Zw B N E S' ⟨(XU A (zB (by unfold bL;simp? [wR L];exact I) (by unfold bM;simp? [WG a (c _ _ G) (hT.mono λm ds e _=>c m _ e) hl]))).trans w1,w2,w3,⟨λk=>(!decide (k∈RY tk K))&&p k,?_⟩,Y,(λP y Q i hi=>W P (λj U=>?_) Q i hi)⟩
   .rw[F, <-o,filter_filter];congr 1;funext k;exact Bool.and_comm _ _
   .rw[<-o,æ];refine⟨y j U,?_⟩;rw[ė,ŏ];intro hm;obtain⟨_,D,G,hs⟩:=ZI.mp hm;refine(Q (j,D) G U).a λq X J=>?_;exact hs q X (y q J)
theorem LP(c:S3[lt]? =#[ms,2])(b:TsAt S3 ms tk)(k:tk.length<=100000)(o:S3[la]? =#[A.map zA,2])(w:A.Nodup)(s:A.length<=100):
  ∃K T,yU [.loc lt,.loc la] S3=.ok #[K.map zA,6] (S3++T)/\gF tk A K:=by
 have u:zW (yG 0) bI wV [none] [_] (A.map zA) S3=.ok _ S3:=kN (xS o) λi _=>⟨_,rfl,rfl,by unfold wV;exists 7,tup2⟩
 have a:Old S3 (S3++[.dic (kd A)]):=Old.app _ _;have j:(S3++[MO.dic (kd A)])[S3.length]? =#[kd A,7]:=by simp
 obtain⟨K,E,F,C,y,v,B,q⟩:=Hx c b k 10000 A (S3++[.dic (kd A)]++[.lst ((RY tk A).map zA)]) (S3++[MO.dic _]).length none #[] (a.trans (Old.app _ _)) (Old.app _ _ _ _ j) (by rw[lA];exact ę _) (by simp);obtain⟨T,rfl⟩:=v.is;refine Zy K T ?_ q;show zN (cX [some _,some _,none,none,none] S3)=_;unfold cX;exact zY (zB (by unfold nP;simp? [wR o,lm zA A];erw [u];simp? [T7 w];rfl) (zB (by unfold nQ;simp? [WG j (a _ _ c) (b.mono λm D e _=>a m _ e) k];rfl) (zB y (by unfold nS;exists 7,T9 B))))
def U3(q:Yh S r tk)(o:tk.length<=100000)(m:S[la]? =#[A.map zA,2])(k:A.Nodup)(a:A.length<=100):
  ∃K,zE 2 yU [r,#[la,1]] S=.ok #[K.map zA,6] S/\gF tk A K:=by
 have b: ∀K:List Nat,lo ↑2 _:=λK=>yD (sQ K _);rcases q with⟨rfl,rfl⟩|⟨l,ms,rfl,g1,g2⟩
 .refine(LP (S3:=S++[.lst []]) (lt:=↑2) (la:=la) (A:=A) (ms:=[]) (by simp) .nil (zero_le _) (Old.app _ _ _ _ m) k a).d λK T j c=>?_;refine Z0 K (zX (T:=[.lst []]++T) rfl ?_ (b K) (λl=>by simp)) c;show yU [.loc ↑2,.loc la] (S++[.lst []])=_;rw[j,aA]
 .refine(LP g1 g2 o m k a).d λK T j c=>?_;exact Z0 K (zX (T:=T) rfl j (b K) (λl=>by simp)) c
theorem RZ{α:Type}(f)(xs:List α)(S):UG [.new (xs.map λx=>.bl (f x))] S=#[.bl (xs.any f),S,1]:=by
 have h: ∀xs:List α,iR (xs.map λx=>.bl (f x))=some (xs.map f):=by
  intro xs
  induction xs with
  |nil=>rfl
  |cons x xs ih=>rw[í];unfold iR;rw[ih];rfl
 show(match (some _).bind iR with |some bs=>R.ok _ S|none=>.no)=_;rw[show(some _).bind iR=some _ from h xs];show R.ok _ S=_;rw[List.any_map];rfl
section
def jL(rls:List Rule)(rs:List Row)(some:Db):List Nat:=some.filter λi=>!rls.any λr=>Cv r (qV rs i)
noncomputable abbrev U4(b m:MV)(x y:R0):Rho:=[some b,some m,x,y]
def ZJ(b:(∀r∈rls,jK ts r))(q:(∀r∈rs,iG ts r))(C:↑9<=100)(c:rls.length<=100)(hs: ∀i∈sm,i<↑9)(B:sm.Nodup)(G:sm.length<=100)(S):
  ∃K,zE 2 LB [.val ↑11,#[sm.map zA,6]] S=.ok #[K.map zA,6] S/\gF (tG rls rs) (jL rls rs sm) K:=by
 have o:(S++[MO.lst (rls.map qX)])[↑2]? =#[rls.map qX,2]:=by simp
 have a:zW (yG 0) rY CG [none,some ↑11,#[↑2]] [] (sm.map zA) (S++[.lst (rls.map qX)])=.ok ((jL rls rs sm).map zA) (S++[.lst (rls.map qX)]):=yL (yT _) λi hi=>by
  have w:zW (yG 0) CF rX [none,some (zA i),some ↑11] [(↑2,rls.map qX)] (rls.map qX) (S++[.lst (rls.map qX)])=.ok (rls.map λr=>.bl (Cv r (qV rs i))) _:=kN (xS o) λr y=>by refine(Vt (b r y) (q _ (AG (hs i hi))) (S++[.lst (rls.map qX)])).a λF E D=>?_;refine ZB _ rfl rfl ?_;unfold rX;simp? [LN,ZE (hs i hi),E,D]
  refine ZB _ rfl ?_ rfl;unfold rY;exists 7,wR o,lm qX rls,w,RZ
 have m: ∀{r S3},EB _ _=.ok (.ret r) S3->LB [zT ts rls rs,.tup (sm.map zA)] S=.ok r S3:=λh=>by show zN (QZ (U4 ↑11 (.tup (sm.map zA)) none none) S)=_;unfold QZ;exact zY (zB (by unfold KZ;simp? [RW b c];rfl) (zB (by unfold LA;simp? [sP,lm zA sm];erw [a];rfl) h))
 have s:(S++[MO.lst (rls.map qX)]++[MO.lst ((jL rls rs sm).map zA)])[(S++[MO.lst (rls.map qX)]).length]? =#[(jL rls rs sm).map zA,2]:=by simp
 have k:Old S (S++[.lst (rls.map qX)]++[.lst ((jL rls rs sm).map zA)]):=by rw[aA];exact Old.app _ _
 generalize S++[.lst (rls.map qX)]++[.lst ((jL rls rs sm).map zA)]=S2 at s k m;refine(Os b q C c S2).k λr S3 I j u A=>?_;refine(U3 u A (j _ _ s) (B.sublist filter_sublist) (ì (ÿ _ _) G)).a λK v H=>?_;obtain⟨T,rfl⟩:=(k.trans j).is;exact Z0 K (zX (T:=T) rfl (m (by unfold EB;exists 7,I,v)) (yD (sQ K _)) (λl=>by simp)) H
end
def Yi(f:Nat->Nat->Bool)(R:Db):Prop:= ∀i∈R, ∀j∈R,f i j=false
noncomputable def iH(f:Nat->Nat->Bool)(R kn:Db):Bool:=kn.all λi=>decide (i∈R) || R.any λj=>f i j
noncomputable def vD(l:Ch)(x:Db):List (List Nat):=if x∈l then l else l++[x]
noncomputable def kC(f:Nat->Nat->Bool)(n:Nat)(R:Db):List Nat:=R.filter λi=>!f n i
def WH(f:Nat->Nat->Bool)(kn:Db)(n:Nat)(b:Ch)(R:Db):List (List Nat):=
 let a:=if kC f n R≠R then vD b R else b
 if iH f (kC f n R++[n]) (kn++[n])=true then vD a (kC f n R++[n])else a
def grow(f:Nat->Nat->Bool)(kn:Db)(n:Nat)(a:Ch):List (List Nat):=a.foldl (WH f kn n) []
def vE:y∈vD l x↔y∈l\/y=x:=by
 unfold vD;split
 .rename_i h;exact⟨.inl,λz=>z.elim id λz=>z▸h⟩
 .rw[ç,mS]
theorem vF(l)(x):(vD l x).length<=(l.length)+1:=by
 unfold vD;split
 .lia
 .rw[lA];simp
theorem Wi{R:Db}:y∈WH f kn n acc R↔y∈acc\/(kC f n R≠R/\y=R)\/(iH f (kC f n R++[n]) (kn++[n])=true/\y=kC f n R++[n]):=by
 unfold WH;by_cases b:kC f n R≠R<;>by_cases a:iH f (kC f n R++[n]) (kn++[n])=true
 .rw[iP b,iP a,vE,vE];grind
 .rw[iP b,iN0 a,vE];grind
 .rw[iP a,vE];grind
 .rw[iN0 a];grind
theorem WI: ∀{j k:Ch},y∈j.foldl (WH f kn n) k↔y∈k\/ ∃R∈j,(kC f n R≠R/\y=R)\/(iH f (kC f n R++[n]) (kn++[n])=true/\y=kC f n R++[n])
 |[],k=>by simp
 |R::j,k=>by
  rw[ĕ,WI,Wi]
  grind
theorem LQ: ∀(k j:Ch),(k.foldl (WH f kn n) j).length<=(j.length)+2 * k.length
 |[],j=>by simp
 |R::k,j=>by
  rw[ĕ];have h:=LQ (f:=f) (kn:=kn) (n:=n) k (WH f kn n j R);have c:(WH f kn n j R).length<=(j.length)+2:=by unfold WH;have b:=vF j R;have a:=vF (if kC f n R≠R then vD j R else j) (kC f n R++[n]);split<;>split at a<;>grind
  rw[lC0]
  lia
def xU{R:Db}:iH f R kn=true↔ ∀i∈kn,i∈R\/ ∃j∈R,f i j=true:=by unfold iH;simp[Ě]
theorem ZK(a: ∀i,f i i=false)(b: ∀i j,f i j=f j i): ∀ kn P ,Yi f P-> ∃Q,(∀i∈P,i∈Q)/\(∀i∈Q,i∈P\/i∈kn)/\Yi f Q/\iH f Q kn=true
 |[],P,h=>⟨P,(λ_ h=>h),(λ_ h=>.inl h),h,rfl⟩
 |k::kn,P,h=>by
  by_cases c: ∃j∈P,f k j=true
  .refine(ZK a b kn P h).elim λQ A=>A.e λq v u y=>?_;refine⟨Q,q,(λi hi=>(v i hi).imp id λz=>.tail _ z),u,xU.mpr λi hi=>?_⟩;rcases mC.mp hi with rfl|hi
   .refine c.a λj m e=>?_;exact .inr ⟨j,q j m,e⟩
   .exact xU.mp y i hi
  .have o: ∀j∈P,f k j=false:=λj m=>by
    cases e:f k j with
    |false=>rfl
    |true=>exact absurd ⟨j,m,e⟩ c
   refine(ZK a b kn (k::P) (λi hi j m=>by
    rcases mC.mp hi with e1|h1<;>rcases mC.mp m with e2|h2
    .rw[e1,e2];exact a _
    .rw[e1];exact o j h2
    .rw[e2,b];exact o i h1
    .exact h i h1 j h2)).elim λQ B=>B.e λq v u y=>?_
   refine⟨Q,(λi hi=>q i (.tail _ hi)),(λi hi=>?_),u,xU.mpr λi hi=>?_⟩
   .rcases v i hi with z|z
    .rcases mC.mp z with rfl|z
     .exact .inr (.head _)
     .exact .inl z
    .exact .inr (.tail _ z)
   .rcases mC.mp hi with rfl|hi
    .exact .inl (q _ (.head _))
    .exact xU.mp y i hi
structure Pc(f:Nat->Nat->Bool)(kn:Db)(told:Ch):Prop where
 sub: ∀R∈told,R.Sublist kn
 ind: ∀R∈told,Yi f R
 full: ∀R∈told,iH f R kn=true
 cov: ∀P:List Nat,(∀i∈P,i∈kn)->Yi f P-> ∃R∈told, ∀i∈P,i∈R
def U5(f):Pc f [] [[]] where
 sub:=λR h=>by rw[mS.mp h];exact .refl _
 ind:=λR h=>by rw[mS.mp h];exact λi hi=>by cases hi
 full:=λR h=>rfl
 cov:=λP h _=>(Z0 ([]) (.head _) (λi hi=>h i hi))
def Wj(m: ∀i,f i i=false)(s: ∀i j,f i j=f j i)(h:Pc f kn told)(n):Pc f (kn++[n]) (grow f kn n told):=by
 have q: ∀R:List Nat,(kC f n R).Sublist R:=λR=>filter_sublist;have a: ∀(R:Db)(i:Nat),i∈kC f n R↔i∈R/\f n i=false:=λR i=>by unfold kC;rw[æ,ė]
 have mm: ∀y,y∈grow f kn n told↔ ∃R∈told,(kC f n R≠R/\y=R)\/(iH f (kC f n R++[n]) (kn++[n])=true/\y=kC f n R++[n]):=λy=>by unfold grow;rw[WI];simp
 have o: ∀R∈told,Yi f _:=λR k i hi j b=>by
  rcases ç.mp hi with hi|hi<;>rcases ç.mp b with b|b
  .exact h.ind R k i ((a R i).mp hi).1 j ((a R j).mp b).1
  .rw[mS.mp b,s];exact((a R i).mp hi).2
  .rw[mS.mp hi];exact((a R j).mp b).2
  .rw[mS.mp hi,mS.mp b];exact m n
 refine⟨λy u=>?_,λy u=>?_,λy u=>?_,λP I F=>?_⟩
 .obtain⟨R,k,⟨_,rfl⟩|⟨_,rfl⟩⟩:=(mm y).mp u
  .exact(h.sub _ k).trans (List.sublist_append_left _ _)
  .exact((q R).trans (h.sub R k)).append (.refl _)
 .obtain⟨R,k,⟨_,rfl⟩|⟨_,rfl⟩⟩:=(mm y).mp u
  .exact h.ind _ k
  .exact o R k
 .obtain⟨R,k,⟨c,rfl⟩|⟨c,rfl⟩⟩:=(mm y).mp u
  .refine xU.mpr λi hi=>?_;rcases ç.mp hi with hi|hi
   .exact xU.mp (h.full _ k) i hi
   .rw[mS.mp hi]
    have: ∃j∈y,f n j=true:=by
     refine ł λz=>c (Ŗ.mpr λj b=>?_)
     cases e:f n j with
     |false=>rfl
     |true=>exact absurd ⟨j,b,e⟩ z
    exact .inr this
  .exact c
 .obtain⟨Q,E,G,v,C⟩:=ZK m s _ P F;have D: ∀i∈Q,i∈kn++[n]:=λi hi=>(G i hi).elim (I i) id;by_cases A:n∈Q
  .refine(h.cov _ (λi hi=>ï (æ.mp hi).2) λi hi j b=>v i (æ.mp hi).1 j (æ.mp b).1).a λR k hs=>?_
   have w: ∀i∈Q,i∈kC f n R++[n]:=λi hi=>by
    by_cases e:i=n
    .rw[e];simp
    .have B:i∈kn:=by
      rcases ç.mp (D i hi)with z|z
      .exact z
      .exact absurd (mS.mp z) e
     exact Ġ _ ((a R i).mpr ⟨hs i (æ.mpr ⟨hi,dT0 B⟩),v n A i hi⟩)
   refine⟨_,(mm _).mpr ⟨R,k,.inr ⟨xU.mpr λi hi=>?_,rfl⟩⟩,λi hi=>w i (E i hi)⟩;exact(xU.mp C i hi).imp (w i) λ⟨j,b,e⟩=>(Z0 j (w j b) e)
  .have B: ∀i∈Q,i∈kn:=λi hi=>by
    rcases ç.mp (D i hi)with z|z
    .exact z
    .rw[mS.mp z]at hi;exact absurd hi A
   refine(h.cov Q B v).a λR k hs=>?_;have H: ∃j∈Q,f n j=true:=(xU.mp C n (by simp)).resolve_left A;refine Z0 R ((mm R).mpr ⟨R,k,.inl ⟨λz=>?_,rfl⟩⟩) (λi hi=>hs i (E i hi));refine H.a λj b e=>?_;have:=hs j b;rw[<-z,a,e]at this;exact absurd this.2 ↑4
noncomputable def HV(O K:Db):Bool:=decide (K.length<O.length)&&K.all λi=>decide (i∈O)
def Dh{K:Db}:HV O K=true↔K.length<O.length/\ ∀i∈K,i∈O:=by unfold HV;simp
def sR{K:Db}(h:gF tk A K):(∀i∈K,i∈A)/\ ∀t∈tk,t.1∈K-> ∃j∈t.2,j∈K:=by refine h.f λo b _=>?_;obtain ⟨p,e⟩:=o;refine⟨λi hi=>by rw[e]at hi;exact(æ.mp hi).1,λt m c=>?_⟩;refine ł λz=>?_;have:=ZI.mpr ⟨c,t.2,m,λj k a=>z (Z0 j k a)⟩;rw[b]at this;cases this
def GL{K:Db}(h:gF tk A K)(h':gF tk A K'):K=K':=by
 have b: ∀i,i∈K↔i∈K':=λi=>⟨h'.2.2 (λi=>i∈K) (sR h).1 (sR h).2 i,h.2.2 (λi=>i∈K') (sR h').1 (sR h').2 i⟩
 obtain⟨⟨p,e⟩,_⟩:=h;obtain⟨⟨c,a⟩,_⟩:=h';rw[e,a];refine ŕ λi hi=>?_;have:=b i;rw[e,a,æ,æ]at this;rw[Ĉ];exact⟨λz=>(this.mp ⟨hi,z⟩).2,λz=>(this.mpr ⟨hi,z⟩).2⟩
section
theorem Ot(a:↑9<=100)(S):zE 1 rR [.val ↑11] S=.ok #[(List.range ↑9).map zA,6] S:=by refine zX (T:=[]) rfl ?_ (yD (sQ _ _)) (λl=>by simp);show zN (rQ [some _] S)=_;unfold rQ rP;simp? [LN,sN,lM0];unfold KB;dsimp only;rw[iP #[],aN];rw[ą];rfl
def Yj(ts:Tk)(rls:List Rule)(rs:List Row)(p:Nat×Nat):Bool:=!(ZH ts rls rs p.1 p.2).isEmpty
theorem Hy(c:(∀r∈rls,jK ts r))(v:(∀r∈rs,iG ts r))(k:↑9<=100)(b:rls.length<=100)(o:gF (tG rls rs) (jL rls rs (List.range ↑9)) Hd)(S):
  zE 1 FQ [.val ↑11] S=#[((wQ Hd).filter (Yj ts rls rs)).map WB,S,2]:=by
 have a: ∀i∈Hd,i<rs.length:=λi hi=>ú.mp (æ.mp ((sR o).1 i hi)).1;have m:Hd.Nodup:=by obtain⟨⟨p,e⟩,_⟩:=o;rw[e];exact(nodup_range.filter _).filter _
 have j:Hd.length<=100:=ì (m.length_le_of_subset λi hi=>ú.mpr (a i hi)) (by rw[ò];exact k);refine fC (T:=[.lst (rls.map qX)]) rfl ?_ (zU λd A=>?_)
 .show zN (vW [some _,none] S)=_;unfold vW;refine zY (zB (ρ':=[some ↑11,#[↑2]]) (S':=S++[.lst (rls.map qX)]) ?_ ?_)
  .unfold uI;simp? [RW c b]
  .have B:(S++[MO.lst (rls.map qX)])[↑2]? =#[rls.map qX,2]:=by simp
   refine(ZJ c v k b (λi hi=>ú.mp hi) nodup_range (by rw[ò];exact k) (S++[.lst (rls.map qX)])).a λK s D=>?_;rw[GL D o]at s
   have y:zW (PZ 2 (yC (yG 0) (yC (yG 1) aU))) cY cZ [none,none,some ↑11,#[↑2]] [] _ (S++[.lst (rls.map qX)])=.ok (((wQ Hd).filter (Yj ts rls rs)).map WB) _:=yL (f:=WB) (yT _) λp C=>by
    have q:=OR C;refine ZB _ rfl ?_ ?_
    .unfold cY;simp? [zCR c v b (a _ q.1) (a _ q.2) B];unfold Yj;cases ZH ts rls rs p.1 p.2<;>rfl
    .unfold cZ;exists 7,rfl
   have w:=pairs_len Hd;have E:Hd.length * Hd.length<=100 * 100:=mul_le_mul j j;unfold uK;simp? [Ot k,s,Wc (show Hd.length<=200 by lia),lU];erw [iP (by rw[lM0];lia),y];rfl
 .refine(mM0.mp A).a λp _ F=>?_;subst F;exact yD (zU λe u=>by simp only[mC,nM,or_false]at u;rcases u with rfl|rfl<;>exact xC _ _)
end
abbrev SD(F:List (Nat×Nat×List Nat)):List (MV×MV):=F.map λx=>(zA x.1,MV.loc x.2.1)
def U6(F:List (Nat×Nat×List Nat))(a b:Nat):Prop:= ∃x∈F,x.1=a/\b∈x.2.2
structure FoeAt(S0:Sto)(l:Nat)(F:List (Nat×Nat×List Nat))(S:Sto):Prop where
 dic:S[l]? =#[SD F,7]
 pl: ∀x∈F,S[x.2.1]? =#[x.2.2.map zA,2]
 pn:F.Pairwise λx y=>x.2.1≠y.2.1
 kn:F.Pairwise λx y=>x.1≠y.1
 lo:S0.length<=l/\ ∀x∈F,S0.length<=x.2.1
 old:Old S0 S
theorem Di{β:Type}{g:β->Nat}: ∀{F:List β},F.Pairwise (λx y=>g x≠g y)-> ∀x∈F, ∀y∈F,g x=g y->x=y
 |[],_,x,hx,_,_,_=>by cases hx
 |a::F,h,x,hx,y,hy,e=>by
  obtain⟨j,k⟩:=pairwise_cons.mp h;rcases mC.mp hx with e1|hx'<;>rcases mC.mp hy with e2|hy'
  .rw[e1,e2]
  .rw[e1]at e;exact absurd e (j y hy')
  .rw[e2]at e;exact absurd e.symm (j x hx')
  .exact Di k x hx' y hy' e
def CQ(h:S[l]? =#[SD F,7]):BV S #[l,1]=some (l,SD F):=by unfold BV;dsimp only;rw[h];exact iP ((by rw[ă];intro p a;refine(mM0.mp a).a λx _ b=>?_;subst b;rfl))
def OS(kn:F.Pairwise λx y=>x.1≠y.1)(a:x∈F):look (SD F) (zA x.1)=#[x.2.1]:=by
 induction F with
 |nil=>cases a
 |cons y F ih=>
  obtain⟨c,b⟩:=pairwise_cons.mp kn;unfold look at ih ⊢;rw[show SD _=_::SD F from rfl,find?_cons];rcases mC.mp a with rfl|a
  .rw[dT0 rfl];rfl
  .rw[dF0 λz=>c x a (AH z)];exact ih b a
def GM(h: ∀x∈F,x.1≠i):look (SD F) (zA i)=none:=by
 unfold look;rw[List.find?_eq_none.mpr]
 .rfl
 .intro p a;refine(mM0.mp a).a λx b j=>?_;subst j;rw[é];exact λz=>h x b (AH z)
theorem Dj(h:FoeAt S0 l F S)(P:F.length<1000)(N: ∀x∈F,x.2.2.length<1000)(i j):
  ∃p G S2 B ds,YQ #[l,1] [.val (zA i),.new []] S=.ok #[p,1] G/\G[p]? =#[ds,2]/\AQ #[p,1] [.val (zA j)] G=#[.non,S2,1]/\FoeAt S0 l B S2/\(∀a b,U6 B a b↔U6 F a b\/(a=i/\b=j))/\
   B.length<=F.length+1/\(∀x∈B,x.2.2≠[]\/x∈F)/\ ∀x∈B,x.2.2.length<=1\/ ∃y∈F,x.2.2.length<=y.2.2.length+1:=by
 have v:Old S (S++[.lst []]):=Old.app _ _;have I:BV (S++[.lst []]) #[l,1]=some (l,SD F):=CQ (v _ _ h.dic);have w:AR (zA i)=true/\(SD F).length<1000000:=⟨rfl,by rw[lM0];lia⟩
 by_cases c: ∃x∈F,x.1=i
 .refine c.a λx s T=>?_;subst T;have C:_[x.2.1]? =some _:=v _ _ (h.pl x s);have L:x.2.1≠l:=λz=>by have:=h.pl x s;rw[z,h.dic]at this;cases this
  have O:=N x s;refine Zp x.2.1 _ _ (F.map λy=>if y.1=x.1 then(y.1,y.2.1,y.2.2++[j])else y) _ ⟨?_,C,hX C (by rw[lM0];lia),?_,?_,(by rw[lM0];lia),?_,?_⟩
  .unfold YQ cG;dsimp only;rw[aV];unfold Hb;rw[I];dsimp only;rw[iP w,OS h.kn s]
  .have K: ∀y∈F,y.1=x.1->y=x:=λy k e=>Di h.kn y k x s e;have M: ∀y∈F,y.2.1=x.2.1->y=x:=λy k e=>Di h.pn y k x s e;have u: ∀y:Nat×Nat×List Nat,(if y.1=x.1 then(y.1,y.2.1,y.2.2++[j])else y).1=y.1/\(if y.1=x.1 then(y.1,y.2.1,y.2.2++[j])else y).2.1=y.2.1:=λy=>by split<;>exact⟨rfl,rfl⟩
   refine⟨?_,λy k=>?_,?_,?_,⟨h.lo.1,λy k=>?_⟩,?_⟩
   .rw[ñ L,v _ _ h.dic];unfold SD;rw[ą];congr 2;exact map_congr_left λy _=>by show _=(zA _,MV.loc _);rw[(u y).1,(u y).2]
   .obtain⟨z,o,rfl⟩:=mM0.mp k;by_cases e:z.1=x.1
    .rw[iP e];cases K z o e;show _[x.2.1]? =_;rw[Ā (gS.mp C).1,Ă];rfl
    .rw[iN0 e,ñ λq=>e (by rw[M z o q.symm])];exact v _ _ (h.pl z o)
   .exact ň.mpr (h.pn.imp λ{a b} q=>by rw[(u a).2,(u b).2];exact q)
   .exact ň.mpr (h.kn.imp λ{a b} q=>by rw[(u a).1,(u b).1];exact q)
   .obtain⟨z,o,rfl⟩:=mM0.mp k;rw[(u z).2];exact h.lo.2 z o
   .exact(h.old.trans v).set (h.lo.2 x s) _
  .intro a b;constructor
   .rintro⟨y,k,rfl,m⟩;refine(mM0.mp k).a λz o U=>?_;subst U;by_cases e:z.1=x.1
    .rw[iP e]at m ⊢;rcases ç.mp m with m|m
     .exact .inl (ZB z o rfl m)
     .exact .inr ⟨e,mS.mp m⟩
    .rw[iN0 e]at m ⊢;exact .inl (ZB z o rfl m)
   .rintro(⟨z,o,rfl,m⟩|⟨rfl,rfl⟩)
    .refine(ZB _ (mM0.mpr ⟨z,o,rfl⟩) ?_ ?_)
     .split<;>rfl
     .split
      .exact Ġ _ m
      .exact m
    .refine(ZB _ (mM0.mpr ⟨x,s,rfl⟩) ?_ ?_)
     .rw[iP rfl]
     .rw[iP rfl];exact þ _ (.head _)
  .intro y k;obtain⟨z,o,rfl⟩:=mM0.mp k;split
   .exact .inl (by simp)
   .exact .inr o
  .intro y k;obtain⟨z,o,rfl⟩:=mM0.mp k;refine .inr ⟨z,o,?_⟩;split
   .rw[lA];simp
   .lia
 .have D: ∀x∈F,x.1≠i:=λx s e=>c ⟨x,s,e⟩;have Q:l<S.length:=(gS.mp h.dic).1;have J: ∀x∈F,x.2.1<S.length:=λx s=>(gS.mp (h.pl x s)).1;have A:S0.length<=S.length:=AI h.old;have H:((S++[MO.lst []]).set l (.dic (SD F++[(zA i,.loc ↑2)])))[↑2]? =#[[],2]:=by rw[ñ #[]];simp
  refine Zp _ _ _ (F++[(i,↑2,[j])]) ([]) ⟨?_,H,hX H ↑4,?_,?_,(by rw[lA];simp),?_,?_⟩
  .unfold YQ cG;dsimp only;rw[aV];unfold Hb;rw[I];dsimp only;rw[iP w,GM D];unfold putK;rw[GM D];rfl
  .refine⟨?_,λy k=>?_,?_,?_,⟨h.lo.1,λy k=>?_⟩,?_⟩
   .rw[ñ #[],Ā (by rw[lA];simp;lia)];unfold SD;rw[Ă];rfl
   .rcases ç.mp k with k|k
    .have:=J y k;rw[ñ #[],ñ λz=>by have:=h.pl y k;rw[<-z,h.dic]at this;cases this];exact v _ _ (h.pl y k)
    .rw[mS.mp k];show _[↑2]? =_;rw[Ā (by rw[ā,lA];simp)];rfl
   .exact pairwise_append.mpr ⟨h.pn,pairwise_singleton _ _,λa E b m=>by rw[mS.mp m];have:=J a E;show a.2.1≠↑2;lia⟩
   .exact pairwise_append.mpr ⟨h.kn,pairwise_singleton _ _,λa E b m=>by rw[mS.mp m];exact D a E⟩
   .rcases ç.mp k with k|k
    .exact h.lo.2 y k
    .rw[mS.mp k];exact A
   .exact((h.old.trans v).set h.lo.1 _).set A _
  .intro a b;unfold U6;constructor
   .rintro⟨y,k,rfl,m⟩;rcases ç.mp k with k|k
    .exact .inl ⟨y,k,rfl,m⟩
    .rw[mS.mp k]at m ⊢;exact .inr ⟨rfl,mS.mp m⟩
   .rintro(⟨y,k,rfl,m⟩|⟨rfl,rfl⟩)
    .exact(ZB y (Ġ _ k) rfl m)
    .exact(ZB _ (þ _ (.head _)) rfl (.head _))
  .intro y k;rcases ç.mp k with k|k
   .exact .inr k
   .rw[mS.mp k];exact .inl (by simp)
  .intro y k;rcases ç.mp k with k|k
   .exact .inr ⟨y,k,by lia⟩
   .rw[mS.mp k];exact .inl (à _)
section
noncomputable abbrev U8(b:MV)(l:Nat)(x y:R0):Rho:=[some b,#[l],x,y]
structure FoI(S0:Sto)(k:Nat)(done:List (Nat×Nat))(S:Sto)(F:List (Nat×Nat×List Nat)):Prop where
 at':FoeAt S0 S0.length F S
 fr: ∀a b,U6 F a b↔(a,b)∈done\/(b,a)∈done
 ne: ∀x∈F,x.2.2≠[]
 len:F.length<=2 * k
 ll: ∀x∈F,x.2.2.length<=2 * k
theorem Ou(h:FoI S0 k done S F)(Y:k<450)(p)(b):
  ∃S' I,lE (U8 b S0.length (some (zA p.1)) (some (zA p.2))) S=#[U8 b S0.length (some (zA p.1)) (some (zA p.2)),S',0]/\FoI S0 (k+1) (done++[p]) S' I:=by
 refine(Dj h.at' (by have:=h.len;lia) (λx c=>by have:=h.ll x c;lia) p.1 p.2).m λU W m s H V=>V.t λE O Q o w T P J=>?_
 have j: ∀x∈s,x.2.2.length<=2 * k+1:=λx c=>by
  rcases J x c with z|⟨y,hy,z⟩
  .lia
  .have:=h.ll y hy;lia
 refine(Dj o (by have:=h.len;lia) (λx c=>by have:=j x c;lia) p.2 p.1).m λX Z M A v a0=>a0.t λK q N u G b6 D C=>?_;have B:KI #[S0.length,1] S=true:=by unfold KI;rw[CQ h.at'.dic];rfl
 have L:KI #[S0.length,1] m=true:=by unfold KI;rw[CQ o.dic];rfl
 refine Zy M A ?_ ⟨u,λa b=>?_,λx c=>?_,by have:=h.len;lia,λx c=>?_⟩
 .unfold lE;refine zB (ρ':=U8 b S0.length (some (zA p.1)) (some (zA p.2))) (S':=m) ?_ ?_
  .unfold mL;exists 7,B,E,kO O,Q
  .unfold mP;exists 7,L,K,kO q,N
 .rw[G,w,h.fr]
  grind
 .rcases D x c with z|z
  .exact z
  .rcases P x z with z|z
   .exact z
   .exact h.ne x z
 .rcases C x c with z|⟨y,hy,z⟩
  .lia
  .have:=j y hy;lia
end
def Dk{R:Db}:zA i∈R.map zA↔i∈R:=⟨λh=>by refine(mM0.mp h).a λj a e=>?_;exact AH e▸a,λh=>mM0.mpr (Z0 i h rfl)⟩
def Dl{R:Db}: ∀y∈R.map zA,pd y=true/\LZ y<40:=λy a=>by refine(mM0.mp a).a λi _ b=>?_;subst b;exact⟨rfl,by show LZ (MV.int _)<40;unfold LZ;decide⟩
def Wm{R:Db}(neg)(h:S[l]? =#[R.map zA,2])(i):MK neg (.val (zA i)) #[l,1] S=#[.bl (if neg=true then !decide (i∈R)else decide (i∈R)),S,1]:=by rw[RO neg h rfl Dl,Ň.mpr (Dk)]
def SE(neg)(i)(R:Db)(S):MK neg (.val (zA i)) #[R.map zA,6] S=#[.bl (if neg=true then !decide (i∈R)else decide (i∈R)),S,1]:=by
 show rC neg (.val _) #[_,6] S=_;unfold rC;rw[show itemsOf S _=some _ from rfl];dsimp only;rw[EI rfl Dl];dsimp only;have a:((R.map zA).map λy=>decide (y=zA i)).any id=decide (i∈R):=by rw[List.any_map,Ĉ,Ě,é, <-Dk];exact⟨λ⟨y,c,e⟩=>by have:y=zA i:=ï e;exact this▸c,λb=>⟨_,b,dT0 rfl⟩⟩
 rw[a]
noncomputable def ZL(F:List (Nat×Nat×List Nat))(i:Nat):List Nat:=((F.find? λx=>decide (x.1=i)).map (·.2.2)).getD []
def fB(F:List (Nat×Nat×List Nat))(i j:Nat):Bool:=decide (j∈ZL F i)
theorem Ov(kn:F.Pairwise λx y=>x.1≠y.1)(a:x∈F):ZL F x.1=x.2.2:=by
 unfold ZL
 cases e:F.find? λy=>decide (y.1=x.1)with
 |none=>exact absurd (dT0 rfl) (List.find?_eq_none.mp e x a)
 |some y=>
  have b:=find?_some e;rw[Di kn y (List.mem_of_find?_eq_some e) x a (ï b)];rfl
def ZM(kn:F.Pairwise λx y=>x.1≠y.1):fB F i j=true↔U6 F i j:=by
 unfold fB U6;rw[é];constructor
 .intro h;unfold ZL at h
  cases e:F.find? λy=>decide (y.1=i)with
  |none=>rw[e]at h;cases h
  |some y=>
   rw[e]at h;have b:=find?_some e;exact⟨y,List.mem_of_find?_eq_some e,ï b,h⟩
 .rintro⟨x,c,rfl,a⟩;rw[Ov kn c];exact a
def Dm(h:FoeAt S0 l F S)(hi:i∈F.map (·.1)): ∃p,QW #[l,1] (.val (zA i)) S=.ok #[p,1] S/\S[p]? =#[(ZL F i).map zA,2]:=by refine(mM0.mp hi).a λx a b=>?_;subst b;refine⟨_,?_,by rw[Ov h.kn a];exact h.pl x a⟩;unfold QW;rw[CQ h.dic];dsimp only;rw[iP (show AR _=true from rfl),OS h.kn a]
def Ow(A B:Db):(A.any λj=>decide (j∈B))=B.any λj=>decide (j∈A):=by rw[Ĉ,Ě,Ě];exact⟨λ⟨j,h,e⟩=>⟨j,ï e,dT0 h⟩,λ⟨j,h,e⟩=>⟨j,ï e,dT0 h⟩⟩
theorem V2(h:FoeAt S0 l F S)(v: ∀x∈F,x.2.2.length<=800)(m:S[lk]? =#[kn.map zA,2])(u:kn.length<=1000)(a: ∀i∈kn,i∈F.map (·.1))(R):
  zE 3 FS [#[R.map zA,6],#[lk,1],#[l,1]] S=#[.bl (iH (fB F) R kn),S,1]:=by
 (refine zX (T:=[]) rfl ?_ (JS _ _) (λl=>by simp));show zN (vX [some _,some _,some _] S)=_;unfold vX uO
 have s:zW (yG 0) mT dC [none,some _,#[l]] [_] _ S=.ok (kn.map λi=>.bl (decide (i∈R) || R.any λj=>fB F i j)) S:=kN (xS m) λi hi=>by
  refine ZB ([some (zA i),#[R.map zA,3],#[l]]) rfl rfl ?_;refine(Dm h (a i hi)).a λp p1 p2=>?_;have q:(ZL F i).length<=800:=by refine(mM0.mp (a i hi)).a λx c A=>?_;subst A;rw[Ov h.kn c];exact v x c
  have b:zW (yG 0) dB jD [none,#[R.map zA,3]] [_] _ S=.ok ((ZL F i).map λj=>.bl (decide (j∈R))) S:=kN (xS p2) λj y=>by refine ZB ([some (zA j),some _]) rfl rfl ?_;unfold jD;simp? [SE];rfl
  unfold dC;simp? [SE]
  cases w:decide (i∈R)with
  |true=>rfl
  |false=>
   rw[show WO 1 [1] [some _,some _,#[l]]=[none,some _]from rfl];show((((QW _ _ S).bind FA).bind λk S=>if (k.ds.length)<1000000 then(zW (yG 0) dB jD [none,some _] k.gs k.ds S).bind λo S=>.ok _ S else .no).bind λp S=>.ok [p] S).bind UG=_;rw[p1,aV,wR p2,aV];dsimp only;rw[iP (by rw[lM0];lia),b,aV,aV,aV,RZ,Ow];rfl
 simp? [wR m,lm zA kn];erw [s];simp? [Cq];rw[aN];rfl
abbrev zR(R:Db):MV:=.tup (R.map zA)
def iK(A:Ch):List (MV×MV):=A.map λR=>(zR R,MV.bl true)
def SF(h:zR A=zR B):A=B:=by
 have h:=by injection h
 exact(List.map_inj_right λa b e=>AH e).mp h
theorem SH: ∀R:List Nat,kP (R.map zA)=some (R.map λi:Nat=>NK.key (some (Sum.inl  i )))/\AV (R.map λi:Nat=>NK.key (some (Sum.inl  i )))=0
 |[]=>⟨vQ,rfl⟩
 |i::R=>by obtain⟨j,k⟩:=SH R;rw[í,fG,j];refine⟨rfl,?_⟩;show max 0 _=0;rw[k];rfl
theorem SI(h:S[l]? =#[iK A,7]):DF S #[l,1]=some (l,iK A):=by unfold DF;dsimp only;rw[h];refine iP (ă.mpr λp a=>?_);refine(mM0.mp a).a λR _ b=>?_;subst b;rfl
def Ox(A)(R):(look (iK A) (zR R)).isSome=decide (R∈A):=by
 induction A with
 |nil=>rfl
 |cons a A ih=>
  unfold look at ih ⊢;rw[show iK _=_::iK A from rfl,find?_cons];by_cases e:a=R
  .rw[dT0 (by rw[e]),dT0 (by rw[e];exact .head _)];rfl
  .rw[dF0 λz=>e (SF z)];rw[ih];exact Ň.mpr ⟨λz=>.tail _ z,λz=>(mC.mp z).resolve_left λy=>e y.symm⟩
theorem Wo(A)(R):putK (iK A) (zR R) (.bl true)=iK (vD A R):=by
 unfold putK vD;rw[Ox];by_cases h:R∈A
 .rw[iP (dT0 h),iP h];unfold iK;rw[ą];refine map_congr_left λB _=>?_;exact ite_self _
 .rw[iN0 (by rw[é];exact h),iN0 h];unfold iK;rw[Ă];rfl
def SJ(h:S[l]? =#[iK A,7])(a:A.length<1000000)(R)(ρ):DG #[l,1] (.val (zR R)) (.bl true) ρ S=.ok ρ (S.set l (.dic (iK (vD A R)))):=by unfold DG;rw[SI h];dsimp only;rw[iP ⟨(by unfold keyOk;rw[fF,(SH R).1];show(true&&decide _)=true;rw[show AO _=AV _+1 from rfl,(SH R).2];rfl),by unfold iK;rw[lM0];exact a⟩,Wo]
theorem Oy(h:S[l]? =#[iK A,7]):FL [#[l,1]] S=#[A.map zR,S,2]:=by unfold FL;dsimp only;rw[SI h];dsimp only;unfold iK;rw[ą];rfl
def Oz(h:S[l]? =#[iK A,7]):QX #[l,1] S=.ok ⟨A.map zR,[]⟩ (S.set l (.fdc (iK A))):=by unfold QX;rw[SI h];dsimp only;rw[show(iK A).map (·.1)=A.map zR by unfold iK;rw[ą];rfl]
def Pa(h:S[l]? =some (.fdc (iK A))):QX #[l,1] S=.ok ⟨A.map zR,[]⟩ S:=by unfold QX;rw[show DF S _=none by unfold DF;dsimp only;rw[h]];rw[show Bw S _=some _ by unfold Bw;dsimp only;rw[h]];dsimp only;rw[show(iK A).map (·.1)=A.map zR by unfold iK;rw[ą];rfl]
abbrev Y4(c b:Nat)(a:R0)(n:Nat)(lg:Nat)(x y:R0):Rho:=[#[c],#[b],a,some (zA n),#[lg],x,y]
theorem HM(R):pd (zR R)=true/\LZ (zR R)<40:=by
 have h: ∀R:List Nat,Cb (R.map zA)=true/\GH (R.map zA)<=0:=λR=>by
  induction R with
  |nil=>exact⟨rfl,à _⟩
  |cons i R ih=>
   rw[í];exact⟨by unfold Cb;rw[ih.1];rfl,by unfold GH;rw[show LZ _=0 from rfl];have:=ih.2;lia⟩
 exact⟨by show Cb _=true;exact(h R).1,by have:=(h R).2;show GH _+1<40;lia⟩
theorem OT(A B)(S):MH (.val (zR A)) (.val (zR B)) S=#[.bl (decide (A≠B)),S,1]:=by
 rw[QM (iE _ (HM A).1 (HM B).1 (by have:=(HM A).2;unfold zL;lia))];by_cases e:A=B
 .rw[dT0 (by rw[e]),dF0 (λz=>z e)];rfl
 .rw[dF0 (λz=>e (SF z)),dT0 e];rfl
def FoeAt.setG(h:FoeAt S0 lf F S)(hg:S[lg]? =#[kv,7])(hne:lg≠lf)(hl:S0.length<=lg)(o):FoeAt S0 lf F (S.set lg o) where
 dic:=by rw[ñ hne];exact h.dic
 pl:=λx hx=>by rw[ñ λz=>by have:=h.pl x hx;rw[<-z,hg]at this;cases this];exact h.pl x hx
 pn:=h.pn
 kn:=h.kn
 lo:=h.lo
 old:=h.old.set hl _
theorem zCU(h:FoeAt S0 lf F S)(w: ∀x∈F,x.2.2.length<=800)(k:S[lk]? =#[(kn++[n]).map zA,2])(s:kn.length<=900)(a: ∀i∈kn++[n],i∈F.map (·.1))
   (hg:S[lg]? =#[iK acc,7]) (hal:acc.length<=900000) (hlg:lg≠lf) (hl0:S0.length<=lg) (R) (hR:R.length<=1000) (td y):
  xG (Y4 lf lk td n lg (some (zR R)) y) S=#[Y4 lf lk td n lg (some (zR R)) (some (zR (kC (fB F) n R))),S.set lg (.dic (iK (WH (fB F) kn n acc R))),0]:=by
 have v:n∈F.map (·.1):=a n (by simp);generalize j:kC (fB F) n R=A;have o:A.length<=1000:=by rw[<-j];exact ì (ÿ _ _) hR
 have c:lg<S.length:=(gS.mp hg).1;unfold xG;refine zB (ρ':=Y4 lf lk td n lg (some (zR R)) (some (zR A))) (S':=S) ?_ ?_
 .unfold kR;simp? [sP,lm zA R];erw [(show zW (yG 0) xP kQ [none,#[lf],some (zA n)] [] (R.map zA) S=.ok ((kC (fB F) n R).map zA) S from yL (yT _) λi hi=>by
   refine(Dm h v).a λp p1 p2=>?_;refine ZB _ rfl ?_ rfl;unfold xP;simp? [p1,Wm true p2];rfl)];simp? [j,AD]
 .refine zB (ρ':=Y4 lf lk td n lg (some (zR R)) (some (zR A))) (S':=S.set lg (.dic (iK (if A≠R then vD acc R else acc)))) ?_ ?_
  .unfold kS;by_cases e:A≠R
   .rw[iP e];simp? [OT,dT0 e];show((DG _ (.val (zR R)) (.bl true) _ S).bind λD S=>.ok (Fl.next D) S)=_;rw[SJ hg #[]];rfl
   .rw[iN0 e,set_same hg];simp? [OT,dF0 e];rfl
  .generalize m:(if A≠R then vD acc R else acc)=B;have b:B.length<1000000:=by rw[<-m];have:=vF acc R;split<;>lia
   have u:(S.set lg _)[lg]? =#[iK B,7]:=Ā c;have C:FoeAt S0 lf F (S.set lg (.dic (iK B))):=h.setG hg hlg hl0 _;have q:(S.set lg (MO.dic (iK B)))[lk]? =#[(kn++[n]).map zA,2]:=by rw[ñ λz=>by rw[z,k]at hg;cases hg];exact k
   have ad: ∀S,yF (.val (zR A)) #[[zA n],6] S=#[zR (A++[n]),S,1]:=λS=>by rw[Az (fits (by rw[lM0];simp;lia)),show zR (A++[n])=.tup (A.map zA++[zA n]) by unfold zR;rw[Ă];rfl]
   unfold kT;simp? [show∀S,wD [.val (zA n)] S=.ok _ S from λS=>mG (by simp),ad,V2 C w q (by rw[lA];simp;lia) a (A++[n])];have es:WH (fB F) kn n acc R=if iH (fB F) (A++[n]) (kn++[n])=true then vD B (A++[n])else B:=by unfold WH;rw[j,m]
   rw[es]
   cases E:iH (fB F) (A++[n]) (kn++[n])with
   |true=>
    rw[iP rfl,iP rfl];unfold Fe cG;simp? [show∀S,wD [.val (zA n)] S=.ok _ S from λS=>mG (by simp),ad,SJ u b,ě]
   |false=>rfl
def Wp(f)(kn)(n)(acc)(R):(WH f kn n acc R).length<=acc.length+2:=by have:=LQ (f:=f) (kn:=kn) (n:=n) [R] acc;simpa using this
theorem Do(v: ∀x∈F,x.2.2.length<=800)(c:kn.length<=900)(m: ∀i∈kn++[n],i∈F.map (·.1))(b:lg≠lf)(a:S0.length<=lg)(td):
  ∀(k j:Ch) S  x y ,FoeAt S0 lf F S->S[lk]? =#[(kn++[n]).map zA,2]->S[lg]? =#[iK j,7]->(j.length)+2 * k.length<=900000->(∀R∈k,R.length<=1000)->(∀o,stay gs (S.set lg o))->
   ∃x' q,dU (yG 5) xG gs (k.map zR) (Y4 lf lk td n lg x y) S=#[Y4 lf lk td n lg x' q,S.set lg (.dic (iK (k.foldl (WH (fB F) kn n) j))),0]
 |[],j,S,x,y,h,hk,hg,hl,hR,hs=>(Zb x y (by rw[List.foldl_nil,set_same hg];rfl))
 |R::k,j,S,x,y,h,hk,hg,hl,hR,hs=>by
  rw[lC0]at hl;have u:=(gS.mp hg).1;have w:=zCU h v hk c m hg #[] b a R (hR R (.head _)) td y;have s:=Wp (fB F) kn n j R;generalize C:WH _ kn n j R=B at w s
  obtain⟨x',q,f⟩:=Do v c m b a td k B _ _ _ (h.setG hg b a _)
   (by rw[ñ λz=>by rw[z,hk]at hg;cases hg];exact hk) (Ā u) #[] (λQ A=>hR Q (.tail _ A)) (λo=>by rw[ě];exact hs o)
  refine Zb x' q ?_;rw[í,tW rfl w (hs _),f,ě,ĕ,C]
def Yk{R:Db}(b:R.length<=16)(h: ∀i∈R,i<16):KU [.val (zR R)]=some (R.map Int.ofNat):=by show(intsOf _).bind _=_;rw[vC];refine iP ⟨by rw[lM0];exact b,λz a=>?_⟩;refine(mM0.mp a).a λi hi j=>?_;subst j;have:=h i hi;exact⟨Int.ofNat_nonneg i,ofNat_lt.mpr this⟩
abbrev Nm(R:Db):Prop:=R.length<=16/\ ∀i∈R,i<16
noncomputable def pO(O K:Db):Bool:=K.all λi=>decide (i∈O)
theorem Pb{K:Db}(b:Nm O)(a:Nm K)(S):zE 2 qK [.val (zR O),.val (zR K)] S=#[.bl (pO O K),S,1]:=by
 (refine zX (T:=[]) rfl ?_ (JS _ _) (λl=>by simp));show zN (vY [some _,some _] S)=_;unfold vY uP;have hs:zCK (yJ (vJ 1) wJ) (yJ (vJ 0) wJ) [some (zR O),some (zR K)] S=.ok #[((nI (yO (K.map Int.ofNat)) (yO (O.map Int.ofNat))).length:Nat),5] S:=by unfold zCK;simp? [Yk a.1 a.2,Yk b.1 b.2];rfl
 simp? [hs,eq_int,show decide (((nI _ _).length:Int)=0)=pO O K by rw[Ĉ,é,Int.natCast_eq_zero];exact (show ((nI (yO (K.map Int.ofNat)) (yO (O.map Int.ofNat))).length=0)↔K.all (λi=>decide (i∈O))=true by
   have m: ∀(R:Db)(i:Nat),Int.ofNat i∈yO (R.map Int.ofNat)↔i∈R:=λR i=>by rw[(qG _).2.1,mM0];exact⟨λ⟨j,o,e⟩=>Int.ofNat.inj e▸o,λh=>⟨i,h,rfl⟩⟩
   unfold nI;rw[List.length_eq_zero_iff,List.filter_eq_nil_iff,ă];constructor
   .intro h i hi;have:=h _ ((m K i).mpr hi);rw[é, <-m];simpa using this
   .intro h k c;refine(mM0.mp ((qG _).2.1 k |>.mp c)).a λi hi q=>?_;subst q;have:=ï (h i hi);simpa using(m O i).mpr this)];rw[aN];rfl
theorem V3{K:Db}(b:Nm O)(a:Nm K)(S):zE 2 gD [.val (zR O),.val (zR K)] S=#[.bl (HV O K),S,1]:=by
 (refine zX (T:=[]) rfl ?_ (JS _ _) (λl=>by simp));show zN (xZ [some _,some _] S)=_;unfold xZ wZ;simp? [sN,lM0];unfold HV;rw[aN];by_cases c:K.length<O.length
 .rw[dT0 (ofNat_lt.mpr c),dT0 c];show zN ((zE 2 qK [Er.val _,Er.val _] S).bind λr S=>.ok _ S)=_;rw[Pb b a];rfl
 .rw[dF0 (λz=>c (ofNat_lt.mp z)),dF0 c];rfl
theorem Wq{L:Db}(h:S[l]? =#[SD F,7])(k:F.length<64)(m:L.Perm (F.map (·.1)))(hs:L.Pairwise (· <=·)):OH [#[l,1]] S=#[L.map zA,S,2]:=by
 unfold OH;dsimp only;rw[CQ h];dsimp only;have j:(SD F).map (·.1)=(F.map (·.1)).map zA:=by unfold SD;rw[ą,ą];rfl
 rw[iP (by rw[lM0];exact k),j,vC];have e:L.map Int.ofNat=PySem.W.sortI _:=PySem.W.eq_sortI (m.map _) (ň.mpr (hs.imp λ{a b} c=>Int.ofNat_le.mpr c));show R.ok _ S=_;rw[<-e,ą];rfl
def IP(h:l.Nodup)(x):(vD l x).Nodup:=by
 unfold vD;split
 .exact h
 .rename_i c;exact ĸ.mpr ⟨h,by simp,λa k b j e=>c (by rw[mS.mp j]at e;exact e▸k)⟩
theorem Dp: ∀(j:Ch){k},k.Nodup->(j.foldl (WH f kn n) k).Nodup
 |[],k,h=>h
 |R::j,k,h=>by refine Dp j ?_;unfold WH;split<;>split<;>first |exact IP (IP h _) _|exact IP h _|exact h
structure PcN(f:Nat->Nat->Bool)(kn:Db)(told:Ch):Prop where
 pc:Pc f kn told
 nd:told.Nodup
 le:told.length<=2 ^ kn.length
abbrev psS(f:Nat->Nat->Bool)(b:List Nat×List (List Nat))(n:Nat):List Nat×List (List Nat):=(b.1++[n],grow f b.1 n b.2)
theorem Pd(b: ∀i,f i i=false)(a: ∀i j,f i j=f j i)(h:PcN f kn told)(n):PcN f (kn++[n]) (grow f kn n told):=
 ⟨Wj b a h.pc n,Dp told .nil,by
  have c:(grow f kn n told).length<=_:=LQ told [];have k:=h.le;rw[lA,lS];rw[ġ]at c
  lia⟩
theorem Pe{A:Db}(c:A.Pairwise (· <·))(j:B.Pairwise (· <·))(h: ∀i,i∈A↔i∈B):A=B:=
 List.Perm.eq_of_pairwise (λa b _ _ m k=>by lia) c j ((ĭ (c.imp ä) (j.imp ä)).mpr h)
noncomputable def gM(n:Nat):Nat:=[1,1,2,3,4,6,9,12,18,27,36].getD n 0
theorem WJ: ∀(N:Db)(L:Ch),(∀R∈L, ∃u∈N,u∈R)->(∀u∈N,(L.filter λR=>decide (u∈R)).length<=b)->L.length<=N.length * b
 |[],L,h,_=>by
  match L,h with
  |[],_=>exact zero_le _
  |R::_,h=>refine(h R (.head _)).a λu q _=>?_;cases q
 |u::N,L,h,hb=>by
  have s:=hb u (.head _)
  have o:=WJ N (L.filter λR=>!decide (u∈R)) (λR m=>by
   obtain⟨j,k⟩:=æ.mp m;refine(h R j).a λx c a=>?_;rcases mC.mp c with rfl|c
   .simp[a]at k
   .exact⟨x,c,a⟩) λx c=>ì (filter_sublist.filter _).length_le (hb x (.tail _ c))
  have j:L.length=(L.filter λR=>decide (u∈R)).length+(L.filter λR=>!decide (u∈R)).length:=by rw[<-List.countP_eq_length_filter, <-List.countP_eq_length_filter];simpa using List.length_eq_countP_add_countP λR=>decide _
  rw[lC0]
  lia
theorem least{α:Type}(g:α->Nat): ∀ l ,l≠[]-> ∃v∈l, ∀u∈l,g v<=g u
 |[x],_=>⟨x,.head _,λu j=>by rw[mS.mp j];exact à _⟩
 |x::y::l,_=>by
  refine(least g (y::l) nofun).a λv k h=>?_;by_cases c:g x<=g v
  .exact⟨x,.head _,λu j=>by
    rcases mC.mp j with rfl|j
    .exact à _
    .exact ì c (h u j)⟩
  .exact⟨v,.tail _ k,λu j=>by
    rcases mC.mp j with rfl|j
    .lia
    .exact h u j⟩
theorem mm(M: ∀i,f i i=false)(S: ∀i j,f i j=f j i): ∀ n ,n<=10-> ∀ kn ,kn.length<=n->kn.Pairwise (· <·)-> ∀L:List (List Nat),L.Nodup->(∀R∈L,R.Sublist kn/\Yi f R/\iH f R kn=true)->L.length<=gM n:=by
 intro n
 induction n using Nat.strongRecOn with
 |_ n ih=>
 intro B kn hk H L A k;have pos:1<=gM n:=(show∀n,n<=10->1<=gM n by decide) n B;by_cases c:kn=[]
 .subst c
  match L,A,k with
  |[],_,_=>exact zero_le _
  |[_],_,_=>exact pos
  |R::C::_,A,k=>
   have I:=List.eq_nil_of_sublist_nil (k R (by simp)).1;have G:=List.eq_nil_of_sublist_nil (k C (by simp)).1;rw[I,G]at A;simp at A
 refine(least (λx=>(kn.filter (f x)).length) kn c).a λv T y=>?_;have knd:=H.imp ä
 have o: ∀u∈kn,(kn.filter (f u)).length+1+(kn.filter λx=>!decide (x=u)&& !f u x).length<=kn.length:=λu E=>by
  have:=List.Nodup.length_le_of_subset (l₁:=u::(kn.filter (f u)++kn.filter λx=>!decide (x=u)&& !f u x)) (l₂:=kn) (nodup_cons.mpr ⟨by simp[M],ĸ.mpr ⟨knd.filter _,knd.filter _,λa ha b hb e=>by
   subst e;have I:=(æ.mp ha).2;have G:=(æ.mp hb).2
   simp[I]at G⟩⟩) λx N=>by
    rcases mC.mp N with rfl|N
    .exact E
    .exact(ç.mp N).elim (λz=>(æ.mp z).1) λz=>(æ.mp z).1
  rw[lC0,lA]at this
  lia
 have hd:=o v T;refine ì (WJ (b:=gM (n - (kn.filter (f v)).length - 1)) (v::kn.filter (f v)) L (λR s=>?_) λu E=>?_) ?_
 .rcases xU.mp (k R s).2.2 v T with h|⟨j,q,h⟩
  .exact⟨v,.head _,h⟩
  .exact(Z0 j (.tail _ (æ.mpr ⟨(k R s).1.subset q,h⟩)) q)
 .have D:u∈kn:=by
   rcases mC.mp E with rfl|E
   .exact T
   .exact(æ.mp E).1
  have I:=o u D;have G:=y u D;have:=ih (n - (kn.filter (f v)).length - 1) #[] #[] (kn.filter λx=>!decide (x=u)&& !f u x) #[] (H.filter _) ((L.filter λR=>decide (u∈R)).map λR=>R.filter λx=>!decide (x=u)&& !f u x) ?_ ?_
  .rwa [lM0]at this
  .refine ň.mpr ((A.filter _).imp_of_mem λ{R C} s P O e=>O ?_);obtain⟨J,w⟩:=æ.mp s;obtain⟨X,F⟩:=æ.mp P;refine Pe (H.sublist (k R J).1) (H.sublist (k C X).1) λi=>?_;have m:=congrArg (i∈·) e;simp only[æ,eq_iff_iff]at m;have W:i∈R->f u i=false:=λhi=>(k R J).2.1 u (ï w) i hi;have K:i∈C->f u i=false:=λhi=>(k C X).2.1 u (ï F) i hi;have w:=ï w;have F:=ï F;by_cases z:i=u
   .subst z;exact⟨λ_=>F,λ_=>w⟩
   .grind
  .intro Q hQ;refine(mM0.mp hQ).a λR s V=>?_;subst V;obtain⟨J,w⟩:=æ.mp s;refine(k R J).f λZ U Y=>?_;refine⟨Z.filter _,λi hi j q=>U i (æ.mp hi).1 j (æ.mp q).1,xU.mpr λi hi=>?_⟩;obtain⟨W,K⟩:=æ.mp hi;rcases xU.mp Y i W with h|⟨j,q,h⟩
   .exact .inl (æ.mpr ⟨h,K⟩)
   .refine .inr ⟨j,æ.mpr ⟨q,?_⟩,h⟩;have h3:=U u (ï w) j q;rw[h3,Bool.not_false,Bool.and_true,ė,ŏ];rintro rfl;rw[S,h]at K;simp at K
 .rw[lC0];exact(show∀n,n<=10-> ∀d,d<n->(d+1) * gM (n - d - 1)<=gM n by decide) n B _ #[]
def few(c: ∀i,f i i=false)(a: ∀i j,f i j=f j i)(h:PcN f kn told)(hs:kn.Pairwise (· <·))(k:kn.length<=10):told.length<64:=
 Ř (mm c a 10 (à _) kn k hs told h.nd λR b=>⟨h.pc.sub R b,h.pc.ind R b,h.pc.full R b⟩) ↑4
def FoeAt.mono(h:FoeAt S0 l F S)(o:Old S S'):FoeAt S0 l F S':=⟨o _ _ h.dic,λx a=>o _ _ (h.pl x a),h.pn,h.kn,h.lo,h.old.trans o⟩
def SK(A:Ch)(n):CY n (A.map zR):=zU λd a=>by refine(mM0.mp a).a λR _ b=>?_;subst b;exact yD (sQ R n)
noncomputable abbrev PsQ(b a lt:Nat)(n g x y:R0):Rho:=[#[b],#[a],#[lt],n,g,x,y]
def PsJ(F:List (Nat×Nat×List Nat))(a:Nat)(S:Sto)(L:Db)(k:Nat)(b:List Nat×List (List Nat))(c:Rho)(S':Sto):Prop:=
 ∃lt n g x y,c=PsQ a ↑2 lt n g x y/\Old S S'/\S'[↑2]? =#[b.1.map zA,2]/\↑2<lt/\S'[lt]? =#[b.2.map zR,2]/\b.1=L.take k/\PcN (fB F) b.1 b.2
theorem Wr(h:FoeAt B lf F S)(u: ∀i,fB F i i=false)(D: ∀i j,fB F i j=fB F j i)(hL: ∀x∈F,x.2.2.length<=800)(hl:L.length<=10)(hp: ∀i∈L,i∈F.map (·.1))(H:L[j]? =some n)(J:PsJ F lf S L j b ρ S'):
  ∃ρ' k,((yG 3 (zA n) ρ S').bind λI B=>bN I B)=#[ρ',k,0]/\PsJ F lf S L (j+1) (psS (fB F) b n) ρ' k:=by
 refine J.m λlt n0 g x y V=>V.u λac o s ab U K P=>?_;subst ac;have T:j<L.length:=(gS.mp H).1;have C:b.1.length<=10:=by rw[K,lT];lia
 have W:b.2.length<=1024:=ì P.le (Nat.pow_le_pow_right ↑4 C);have Y:↑2<S'.length:=(gS.mp s).1;have X:lf<S.length:=(gS.mp h.dic).1;have aa:B.length<=S.length:=AI h.old
 have Q: ∀i∈b.1++[n],i∈L:=λi hi=>by
  rcases ç.mp hi with hi|hi
  .rw[K]at hi;exact ĳ hi
  .rw[mS.mp hi];exact ë H
 have v:(S'.set ↑2 (.lst ((b.1++[n]).map zA)))[↑2]? =some _:=get_set s;have m:(S'.set ↑2 (.lst ((b.1++[n]).map zA)))[lt]? =#[b.2.map zR,2]:=by rw[xK #[]];exact U
 have E:Old S (S'.set ↑2 (.lst ((b.1++[n]).map zA))):=o.set (à _) _;generalize w:S'.set S.length _=S1 at v m E;have Z:lt<S1.length:=(gS.mp m).1;have a:Old S1 (S1++[MO.dic []]):=Old.app _ _;have N:(S1++[MO.dic []])[S1.length]? =#[iK [],7]:=by simp[iK]
 refine(Do hL #[] (λi hi=>hp i (Q i hi)) #[] #[] #[lt] (gs:=[(lt,b.2.map zR)]) b.2 [] _ x y (h.mono (E.trans a)) (a _ _ v) N (by rw[ġ];lia) (λR hR=>by have:=(P.pc.sub R hR).length_le;lia) (λo=>xS (by rw[xK #[]];exact a _ _ m))).j λx' y' c=>?_;rw[show b.2.foldl (WH (fB F) b.1 n) []=grow (fB F) b.1 n b.2 from rfl]at c;generalize hG:grow (fB F) b.1 n b.2=G at c;have M:((S1++[MO.dic []]).set S1.length (MO.dic (iK G)))[S1.length]? =#[iK G,7]:=get_set N;have q:Old S1 ((S1++[MO.dic []]).set S1.length (MO.dic (iK G))):=a.set (à _) _;generalize A:(S1++[MO.dic []]).set S1.length (MO.dic (iK G))=S3 at c M q;have O:Old S3 (S3++[.lst (G.map zR)]):=Old.app _ _;refine⟨PsQ lf ↑2 S3.length (some (zA n)) #[S1.length] x' y',_,?_,_,_,_,_,_,rfl,E.trans (q.trans O),O _ _ (q _ _ v),?_,?_,?_,?_⟩
 .subst A w;exact zB (by unfold kU;simp? [kO s,hX s (by rw[lM0];lia)];rw[show b.1.map zA++_=(b.1++[n]).map zA by rw[Ă];rfl]) (zB (by unfold kW;simp? [aV];rfl) (zB (by unfold kX;simp? [wR (a _ _ m)];exact c) (by unfold kY;exists 7,Oy M)))
 .have:=AI q;lia
 .show _=some (MO.lst ((grow (fB F) b.1 n b.2).map zR));rw[hG];simp
 .show b.1++[n]=_;rw[K,take_add_one,H];rfl
 .exact Pd u D P n
theorem Ws(h:FoeAt S0 lf F S)(c: ∀i,fB F i i=false)(s: ∀i j,fB F i j=fB F j i)(G: ∀x∈F,x.2.2.length<=800)(B:F.length<=10)(m:L.Perm (F.map (·.1)))(hs:L.Pairwise (· <=·)):
  ∃k,PcN (fB F) L k/\zE 1 nV [#[lf,1]] S=#[k.map zR,S,2]:=by
 have H:L.length<=10:=by rw[m.length_eq,lM0];exact B
 generalize a:S++[.lst []]++[.lst [.tup []]]=S2;have A:Old S S2:=by rw[<-a,aA];exact Old.app _ _
 obtain⟨ρ',C,e,lt,n,g,x,y,rfl,o,E,D,v,u,P⟩:=uY (PsJ F lf S L) _ 0 (λj n K b M C J=>by rw[Ĳ]at J ⊢;refine(Wr h c s G H (λi hi=>m.mem_iff.mp hi) K J).d λρ' q e I=>?_;exact ZC (ρ') q e (yT _) I) ([],[[]]) _ S2 ⟨↑2+1,_,_,_,_,rfl,A,by rw[<-a];simp,by lia,by rw[<-a];simp,rfl,U5 _,by simp,by simp⟩;generalize N:L.foldl _ _=r at E v u P;rw[Ĳ,take_length]at u;refine Z0 r.2 (u▸P) ?_;obtain⟨T,w⟩:=o.is;refine UI rfl ?_ #[] (w▸v) (SK _ _);rw[<-w];show zN _=_
 exact zY (zB (ρ':=[some _,some _,none,none,none,none,none]) rfl (zB (by
  unfold bO;simp? [show∀S,wD [] S=.ok _ S from λS=>rfl,show∀S,yW [.val _] S=.ok _ S from λS=>rfl];rw[a,lA]) (zB (by
  unfold bP;simp? [Wq (A _ _ h.dic) #[] m hs,lU];exact e) (by rfl))))
def zCV(S)(a b):IB S zL (zR a) (zR b)=some (decide (a<b)):=VZ (n:=38) a b
def ZN(T:Ch):List (List Nat):=T.mergeSort λa b=>decide (a<=b)
def AK(T):(ZN T).Perm T:=List.mergeSort_perm _ _
def SO(T):(ZN T).Pairwise λa b=>a<=b:=by have:=List.pairwise_mergeSort (le:=λa b:List Nat=>decide (a<=b)) (λa b c k j=>dT0 (List.le_trans (ï k) (ï j))) (λa b=>by rw[Bool.or_eq_true,decide_eq_true_iff,decide_eq_true_iff];exact List.le_total _ _) T;exact this.imp λh=>ï h
def OU{R:Ch}(p:R.Perm T)(q:R.Pairwise λa b=>a<=b):R=ZN T:=
 List.Perm.eq_of_pairwise (λa b _ _ j c=>List.le_antisymm j c) q (SO T) (p.trans (AK T).symm)
def V4(P:(T.length)<64)(O:2<=(T.length)->[]∉T)(S):KF [.new (T.map zR)] S=#[(ZN T).map zR,S,2]:=by
 have mem: ∀k∈T.map zR, ∃t∈T,k=zR t:=λk N=>by refine(mM0.mp N).a λt s o=>?_;exact⟨t,s,o.symm⟩
 have at': ∀{m:Nat}{k:MV},_[m]? =some k-> ∃t,T[m]? =some t/\k=zR t:=λh=>by rw[î]at h;refine(Ė.mp h).a λt s o=>?_;exact⟨t,s,o.symm⟩
 have ok:SrtJ S (T.map zR):=by
  refine⟨by rw[lM0];exact P,λd E=>?_,λo d E=>?_,⟨λa A b B=>?_,λa A b B c D s o=>?_,λa A b B s=>?_⟩⟩
  .obtain⟨t,C,rfl⟩:=mem d E;exact OQ λx L=>by refine(mM0.mp L).a λy _ V=>?_;subst V;unfold zA qE;rfl
  .obtain⟨t,C,rfl⟩:=mem d E;rw[lM0]at o
   cases t with
   |nil=>exact absurd C (O o)
   |cons x t=>exact Zb _ _ rfl
  .refine(mem a A).a λt C W=>?_;subst W;refine(mem b B).a λu H Y=>?_;subst Y;exact⟨_,zCV S t u⟩
  .refine(mem a A).a λt C Z=>?_;subst Z;refine(mem b B).a λu H ac=>?_;subst ac;refine(mem c D).a λv J al=>?_;subst al;rw[zCV]at s o ⊢;have s:=of_decide_eq_false (å s);have o:=of_decide_eq_false (å o);rw[dF0 (List.not_lt.mpr (List.le_trans (List.not_lt.mp s) (List.not_lt.mp o)))]
  .refine(mem a A).a λt C am=>?_;subst am;refine(mem b B).a λu H ap=>?_;subst ap;rw[zCV]at s ⊢;rw[dF0 (List.not_lt.mpr (List.le_of_lt (ï (å s))))]
 refine Ug rfl ok (λU h=>?_) ?_
 .refine h.c λw p q a9=>?_;subst a9;rw[lM0]at p;rw[<-OU (R:=w.filterMap _) (by have:=p.filterMap (T[·]?);rwa [LM]at this) (by rw[List.pairwise_filterMap];refine q.imp λ{i j} h b B c D=>?_;have h':=h _ _ (by rw[î,B];rfl) (by rw[î,D];rfl);rw[zCV]at h';exact List.not_lt.mp (of_decide_eq_false (å h'))),map_filterMap];congr 1;funext i;rw[î]
 .refine(NW (AK T).symm (g:=λi=>(T[i]?).getD []) _ (by rw[JY λi hi=>ú.mp hi,LM])).a λw F I=>?_;have K: ∀i,i∈w->i<T.length:=λi hi=>ú.mp (F.mem_iff.mp hi);refine ZB w (by rw[lM0];exact F) ?_ ?_
  .have G:=SO T;rw[<-I,ň]at G;refine List.Pairwise.imp_of_mem (λ{i j} hi Q h a c A D=>?_) G;obtain⟨t,z,rfl⟩:=at' A;obtain⟨u,M,rfl⟩:=at' D;rw[z,M]at h;rw[zCV,dF0 (List.not_lt.mpr (show t<=u from h))]
  .rw[<-I,JY K,map_filterMap];congr 1;funext i;rw[î]
theorem GN: ∀{k},k.Pairwise (· <·)-> ∀{a b},(a,b)∈wQ k↔a∈k/\b∈k/\a<b
 |[],_,a,b=>by simp[wQ]
 |x::k,h,a,b=>by
  obtain⟨q,u⟩:=pairwise_cons.mp h;unfold wQ;rw[ç,GN u,mM0,mC,mC];constructor
  .rintro(⟨j,s,e⟩|⟨c,o,m⟩)
   .cases e;exact⟨.inl rfl,.inr s,q _ s⟩
   .exact⟨.inr c,.inr o,m⟩
  .rintro⟨rfl|c,rfl|o,m⟩
   .exact absurd m (ĝ _)
   .exact .inl ⟨b,o,rfl⟩
   .exact absurd (q _ c) #[]
   .exact .inr ⟨c,o,m⟩
section
variable{rls:List Rule}
def V5(ts:Tk)(rls:List Rule)(rs:List Row)(i j:Nat):Bool:=ZG ts (qV rs i) (qV rs j) || rls.any λr=>pN r (qV rs i) (qV rs j)
def Wt(p):((List.range rls.length).filter λk=>p (Pq rls k)).isEmpty= !rls.any p:=by
 rw[Ĉ,List.isEmpty_iff,ė,ŀ,List.filter_eq_nil_iff];constructor
 .intro h r b;obtain⟨k,a,rfl⟩:=Ń b;rw[<-Oi k a];exact h k (ú.mpr a)
 .intro h k a;exact h _ (Cz (ú.mp a))
def Yl(i j):Yj ts rls rs (i,j)=V5 ts rls rs i j:=by
 unfold Yj ZH V5
 cases ZG ts _ _ with
 |true=>simp
 |false=>rw[iN0 xF0,aN,List.isEmpty_map,Wt λr=>pN r _ _,Bool.not_not,Bool.false_or]
def Ib(r)(a b):pN r a b=pN r b a:=by
 cases r with
 |never t qs=>rfl
 |tie t cs u ds=>rfl
 |apart t u qs=>exact Bool.or_comm _ _
def Pf(i j):V5 ts rls rs i j=V5 ts rls rs j i:=by unfold V5 ZG;rw[show(λr=>pN r _ _)=λr=>pN r _ _ from funext λr=>Ib r _ _,Ň.mpr (eq_comm)]
noncomputable def Pg(a C R:Db):List Nat:=a.filter λi=>!decide (i∈C) || decide (i∈R)
def Ym(h:gF (tG rls rs) (jL rls rs (List.range ↑9)) Hd):Hd.Pairwise (· <·)/\ ∀i∈Hd,i<↑9/\(rls.any λr=>Cv r (qV rs i))=false:=by
 refine⟨?_,λi hi=>?_⟩
 .obtain⟨⟨p,rfl⟩,_⟩:=h;exact(List.pairwise_lt_range.filter _).filter _
 .have:=æ.mp ((sR h).1 i hi);exact⟨ú.mp this.1,by simpa using this.2⟩
end
theorem Ph(F)(i):(look (SD F) (zA i)).isSome=decide (i∈F.map (·.1)):=by
 by_cases c: ∃x∈F,x.1=i
 .refine c.a λx a b=>?_;subst b;rw[dT0 (mem_map_of_mem a)];unfold look;rw[Option.isSome_map,List.find?_isSome];exact⟨_,mem_map_of_mem a,dT0 rfl⟩
 .rw[GM λx a e=>c ⟨x,a,e⟩,dF0 λh=>by refine(mM0.mp h).a λx a e=>?_;exact c ⟨x,a,e⟩];rfl
def V7(h:S[l]? =#[SD F,7])(neg)(i):KG neg (.val (zA i)) #[l,1] S=#[.bl (if neg=true then !decide (i∈F.map (·.1))else decide (i∈F.map (·.1))),S,1]:=by unfold KG;rw[CQ h];show(if AR _=true then _ else _)=_;rw[iP (ky i),Ph]
theorem Wu(h:S[l]? =#[SD F,7])(a:F.length<=10):zE 1 mQ [#[l,1]] S=#[.non,S,1]:=by
 have e:VC [#[l,1]] S=.ok #[(F.length:Nat),5] S:=by unfold VC;dsimp only;rw[CQ h];show R.ok _ S=_;rw[lM0]
 refine zX (T:=[]) rfl ?_ (by unfold lo;trivial) (λl=>by simp);show zN (dA [some _] S)=_;unfold dA nU;simp? [e,show∀(i j:Int) _,Xt #[i,5] #[j,5] S=.ok _ S from λ_ _ _=>rfl,dF0 (show¬(15:Int)<(F.length:Nat) by lia)];rw[aN];rfl
def Dq(q:S[lt]? =#[ms,2])(c:TsAt S ms tk)(o:tk.length<=100000)(b:A.Nodup)(a:A.length<=100):
  ∃K,zE 2 yU [#[lt,1],.new (A.map zA)] S=#[zR K,S,1]/\gF tk A K:=by
 refine(LP (S3:=S++[.lst (A.map zA)]) (la:=↑2) (A:=A) (Old.app _ _ _ _ q) (c.mono λm s h _=>Old.app _ _ _ _ h) o (by simp) b a).d λK T k j=>?_;refine Z0 K (zX (T:=[.lst (A.map zA)]++T) rfl ?_ (yD (sQ K _)) (λl=>by simp)) j;show yU [.loc lt,.loc ↑2] (S++[.lst (A.map zA)])=_;rw[k,aA]
theorem Wv{L:Db}(k:L.Perm T)(hs:L.Pairwise (· <=·))(j:T.length<64)(S):UV [.new (T.map zA)] S=#[L.map zA,S,2]:=by show(if(T.map zA).length<64 then(match intsOf _ with |some ns=>R.ok _ S|none=>.no)else .no)=_;rw[iP (by rw[lM0];exact j),vC];have e:L.map Int.ofNat=PySem.W.sortI _:=PySem.W.eq_sortI (k.map _) (ň.mpr (hs.imp λ{a b} c=>Int.ofNat_le.mpr c));show R.ok _ S=_;rw[<-e,ą];rfl
noncomputable abbrev V8(b:MV)(f u t g x:R0):Rho:=[some b,f,u,t,g,x]
theorem Dr(H:tk.length<=100000)(w:Hd.Pairwise (· <·))(J:Hd.length<=10)(A:lu≠lg)(y:lt≠lg):
  ∀(u j:Ch) S  x ,S[lu]? =some (.lst ((Hd.filter λi=>!decide (i∈C)).map zA))->S[lt]? =#[ms,2]->(∀o,TsAt (S.set lg o) ms tk)->S[lg]? =#[iK j,7]->(j.length)+u.length<=1000->j.Nodup->(∀R∈u,R.Sublist (Hd.filter λi=>decide (i∈C)))->
   ∃x' k,dU (yG 5) fV [] (u.map zR) (V8 b f #[lu] #[lt] #[lg] x) S=#[V8 b f #[lu] #[lt] #[lg] x',S.set lg (.dic (iK k)),0]/\k.Nodup/\k.length<=(j.length)+u.length/\ ∀K,K∈k↔K∈j\/ ∃R∈u,gF tk (Pg Hd C R) K
 |[],j,S,x,_,_,_,hg,_,hn,_=>(Zr x j (by rw[set_same hg];rfl) hn (à _) (λK=>by simp))
 |R::u,j,S,x,hu,ht,hT,hg,hal,hn,hR=>by
  rw[lC0]at hal;have v:=hR R (.head _)
  have D:(Pg Hd C R).Perm ((Hd.filter λi=>!decide (i∈C))++R):=by
   have M:R.Nodup:=(w.imp ä).sublist (v.trans filter_sublist);have F: ∀i∈R,i∈Hd/\i∈C:=λi hi=>by simpa using æ.mp (v.subset hi)
   refine(ĭ ((w.imp ä).filter _) (ĸ.mpr ⟨(w.imp ä).filter _,M,λa X c P e=>?_⟩)).mpr λi=>?_
   .have:=(æ.mp X).2;rw[e,dT0 (F c P).2]at this;cases this
   .show i∈Pg Hd C R↔_;rw[(show i∈Pg Hd C R↔i∈Hd/\(i∈C->i∈R) by unfold Pg;by_cases h:i∈C<;>simp[h]),ç,æ];constructor
    .rintro⟨q,m⟩;by_cases h:i∈C
     .exact .inr (m h)
     .exact .inl ⟨q,by simp[h]⟩
    .rintro(⟨q,m⟩|h)
     .exact⟨q,λz=>by rw[dT0 z]at m;cases m⟩
     .exact⟨(F i h).1,λ_=>h⟩
  have G:(Pg Hd C R).length<=10:=ì (ÿ _ _) J;have s:(Pg Hd C R).Pairwise (· <·):=w.filter _;have E:TsAt S ms tk:=by have:=hT (.dic (iK j));rwa [set_same hg]at this
  refine(Dq ht E H (s.imp ä) #[]).a λK L I=>?_
  have N:fV (V8 b f #[lu] #[lt] #[lg] (some (zR R))) S=#[V8 b f #[lu] #[lt] #[lg] (some (zR R)),S.set lg (.dic (iK (vD j K))),0]:=by
   have ad:yF #[lu,1] (.new (R.map zA)) S=#[((Hd.filter λi=>!decide (i∈C))++R).map zA,S,2]:=by
    rw[Ă];refine FE (by unfold Ik;dsimp only;rw[hu]) rfl (fits ?_);have:=D.length_eq;rw[lA]at this;rw[lM0,lM0]
    lia
   unfold fV sB EJ Fe cG;simp? [Od,ad,Wv D (s.imp le_of_lt) (by rw[<-D.length_eq];lia),L,SJ hg #[]]
  obtain⟨x',k,O,U,Y,T⟩:=Dr H w J A y u (vD j K) _ (some (zR R)) (by rw[xK A.symm];exact hu) (by rw[xK y.symm];exact ht) (λo=>by rw[ě];exact hT o) (get_set hg) (by have:=vF j K;lia) (IP hn K) (λQ W=>hR Q (.tail _ W));refine Zr x' k ?_ U (by have:=vF j K;rw[lC0];lia) (λQ=>?_)
  .rw[í,tW rfl N (yT _),O,ě]
  .rw[T,vE];constructor
   .rintro((h|rfl)|⟨B,q,m⟩)
    .exact .inl h
    .exact .inr ⟨R,.head _,I⟩
    .exact .inr ⟨B,.tail _ q,m⟩
   .rintro(h|⟨B,q,m⟩)
    .exact .inl (.inl h)
    .rcases mC.mp q with rfl|q
     .exact .inl (.inr (GL m I))
     .exact .inr ⟨B,q,m⟩
section
theorem W1(y: ∀K∈Ks,Nm K)(H:Ks.length<64)(F:Ks.Nodup)(B:S[lg]? =#[iK Ks,7]):
  sF (V8 b f u t #[lg] x) S=.ok (.ret (.new ((ZN (Ks.filter λK=>!Ks.any λO=>HV O K)).map zR))) (S.set lg (.fdc (iK Ks))):=by
 have v:(S.set lg _)[lg]? =some (.fdc (iK Ks)):=get_set B;have D:=Oz B;generalize S.set lg _=S1 at v D ⊢;have w:((Ks.map zR).length<1000000)=True:=eq_true (by rw[lM0];lia)
 have E:zW (yG 0) eK sE [none,some _] [] _ S1=.ok ((Ks.filter λK=>!Ks.any λO=>HV O K).map zR) S1:=yL (yT _) λK k=>by
  refine ZB _ rfl ?_ rfl;have o:zW (yG 0) sC eI [none,some _] [] _ S1=.ok (Ks.map λO=>.bl (HV O K)) S1:=kN (yT _) λO G=>by refine ZB ([some (zR O),some (zR K)]) rfl rfl ?_;unfold eI;simp? [V3 (y O G) (y K k)]
  unfold eK;exists 7,Pa v,w,o,RZ
 unfold sF;simp? [D,w];erw [E];simp? [aV];rw[V4 (Ř (ÿ _ _) H) ((λA m=>by
   generalize s:(Ks.filter λK=>!Ks.any λO=>HV O K)=T at A m;have j:T.Nodup:=by rw[<-s];exact F.filter _
   have I: ∃K∈T,K≠[]:=by
    match T,A,j with
    |a::c::T,_,j=>
     by_cases e:a=[]
     .exact⟨c,by simp,λz=>by rw[e,z]at j;simp at j⟩
     .exact⟨a,.head _,e⟩
   refine I.a λK k q=>?_;rw[<-s]at m k;have C:=(æ.mp m).2;rw[ė,ŀ]at C;exact C K (æ.mp k).1 (Dh.mpr ⟨by rw[ġ];exact ō.mpr q,λi hi=>(nomatch hi)⟩)))];rfl
def f0(ts:Tk)(rls:List Rule)(rs:List Row)(a:Db)(i j:Nat):Bool:=decide (i∈a)&&decide (j∈a)&& !decide (i=j)&&V5 ts rls rs i j
def C0(ts:Tk)(rls:List Rule)(rs:List Row)(a:Db):List Nat:=a.filter λi=>a.any (f0 ts rls rs a i)
def Told(ts:Tk)(rls:List Rule)(rs:List Row)(a K:Db):Prop:=
 ∃R:List Nat,(R.Sublist (C0 ts rls rs a)/\Yi (f0 ts rls rs a) R/\iH (f0 ts rls rs a) R (C0 ts rls rs a)=true)/\gF (tG rls rs) (Pg a (C0 ts rls rs a) R) K
abbrev most(Ks:Ch):List (List Nat):=Ks.filter λK=>!Ks.any λO=>HV O K
def Pi(P:PcN f L told)(hs:L.Pairwise (· <·)){R:Db}:R∈told↔R.Sublist L/\Yi f R/\iH f R L=true:=by
 refine⟨λh=>⟨P.pc.sub R h,P.pc.ind R h,P.pc.full R h⟩,λ⟨c,k,m⟩=>?_⟩;refine(P.pc.cov R (λi hi=>c.subset hi) k).a λQ b a=>?_;rwa [Pe (hs.sublist c) (hs.sublist (P.pc.sub Q b)) λi=>⟨a i,λhi=>?_⟩];rcases xU.mp m i ((P.pc.sub Q b).subset hi)with h|⟨j,hj,h⟩
 .exact h
 .rw[P.pc.ind Q b i hi j (a j hj)]at h;cases h
theorem Yn(Q:(∀r∈rls,jK ts r))(hR:(∀r∈rs,iG ts r))(hn:↑9<=10)(L:rls.length<=100)(hH:gF (tG rls rs) (jL rls rs (List.range ↑9)) Hd)(S):
  ∃Ks:List (List Nat),Ks.Nodup/\(∀K,K∈Ks↔Told ts rls rs Hd K)/\Ks.length<64/\Ks≠[]/\(∀K∈Ks,K.Sublist Hd)/\zE 1 bQ [.val ↑11] S=#[(ZN (most Ks)).map zR,S,2]:=by
 obtain⟨v,ab⟩:=Ym hH;have M:Hd.Nodup:=v.imp ä;have ao:Hd.length<=10:=ì (M.length_le_of_subset λi hi=>ú.mpr (ab i hi).1) (by rw[ò];exact hn);refine((show ∃F S',zE 1 qI [.val ↑11] S=.ok #[↑2,1] S'/\FoI S 400 ((wQ Hd).filter (Yj ts rls rs)) S' F by
   generalize af:(wQ Hd).filter (Yj ts rls rs)=cl
   have a0:cl.length<=400:=by
    have G:=pairs_len Hd;have aq: ∀i∈Hd,i<rs.length:=λi hi=>ú.mp (æ.mp ((sR hH).1 i hi)).1;have ar:Hd.Nodup:=by obtain⟨⟨p,e⟩,_⟩:=hH;rw[e];exact(nodup_range.filter _).filter _
    have E:Hd.length<=20:=ì (ar.length_le_of_subset λi hi=>ú.mpr (aq i hi)) (by rw[ò];exact (show ↑9<=20 by lia));have Z:Hd.length * Hd.length<=20 * 20:=mul_le_mul E E;have H:=ÿ (Yj ts rls rs) (wQ Hd);rw[af]at H
    lia
   obtain⟨ρ',S',f1,⟨x,y,rfl⟩,F,I⟩:=uY (gf:=PZ 2 (yC (yG 2) (yC (yG 3) aU))) (λk Y ρ q=>(∃x y,ρ=U8 (zT ts rls rs) S.length x y)/\ ∃F,FoI S k Y q F) (λY p=>Y++[p]) (ds:=cl) 0 (λj p O Y ρ q ⟨⟨x,y,ax⟩,F,hF⟩=>by subst ax;have ay:=(gS.mp O).1;obtain⟨S',F',t1,t2⟩:=Ou hF #[] p (zT ts rls rs);refine⟨U8 (zT ts rls rs) S.length (some (zA p.1)) (some (zA p.2)),S',?_,yT _,⟨_,_,rfl⟩,F',t2⟩;rw[show PZ 2 _ (WB p) _ q=.ok _ q from rfl,aV];exact t1) [] _ (S++[.dic []]) ⟨⟨_,_,rfl⟩,[],⟨⟨by simp,λx s=>(nomatch s),.nil,.nil,⟨à _,λx s=>(nomatch s)⟩,Old.app _ _⟩,λa b=>by unfold U6;simp,λx s=>(nomatch s),zero_le _,λx s=>(nomatch s)⟩⟩
   have fl: ∀(l b:List (Nat×Nat)),l.foldl (λY p=>Y++[p]) b=b++l:=λl=>by
    induction l with
    |nil=>intro b;simp
    |cons a l ih=>intro b;rw[ĕ,ih,aA];rfl
   rw[fl,Œ]at I;refine⟨F,S',?_,⟨I.at',I.fr,I.ne,by have:=I.len;lia,λx s=>by have:=I.ll x s;lia⟩⟩
   have hF:qI [zT ts rls rs] S=.ok #[↑2,1] S':=by
    show zN _=_;unfold FR;refine zY (zB (ρ':=U8 ↑11 ↑2 none none) (S':=S++[.dic []]) ?_ (zB (ρ':=U8 ↑11 ↑2 x y) (S':=S') ?_ ?_))
    .unfold uL;simp? [aV];rfl
    .unfold uM;simp? [Hy Q hR #[] L hH,af,lU];exact f1
    .unfold uN;simp? [aV]
   unfold zE;rw[iP (show [Er.val _].length=1 from rfl)];show((noX (qI [zT ts rls rs] S)).bind λr W=>gI S r W)=_;rw[hF,rB,aV];unfold gI;rw[iP (Dg I.at'.old)];dsimp only;rw[iN0 (ĝ _),I.at'.dic])).d λF q f1 u=>?_
 have fi: ∀i j,fB F i j=true↔i∈Hd/\j∈Hd/\i≠j/\V5 ts rls rs i j=true:=λi j=>by
  rw[ZM u.at'.kn,u.fr,æ,æ,GN v,GN v,Yl,Yl,Pf (ts:=ts) j i];constructor
  .rintro(⟨⟨G,E,Z⟩,H⟩|⟨⟨G,E,Z⟩,H⟩)
   .exact⟨G,E,ä Z,H⟩
   .exact⟨E,G,(ä Z).symm,H⟩
  .rintro⟨G,E,Z,H⟩;rcases Nat.lt_or_gt_of_ne Z with z|z
   .exact .inl ⟨⟨G,E,z⟩,H⟩
   .exact .inr ⟨⟨E,G,z⟩,H⟩
 have aj: ∀i,fB F i i=false:=λi=>by
  cases e:fB F i i with
  |false=>rfl
  |true=>exact absurd rfl ((fi i i).mp e).2.2.1
 have ag: ∀i j,fB F i j=fB F j i:=λi j=>by rw[Ĉ,fi,fi,Pf (ts:=ts) j i];exact⟨λ⟨a,b,c,d⟩=>⟨b,a,c.symm,d⟩,λ⟨a,b,c,d⟩=>⟨b,a,c.symm,d⟩⟩
 generalize hC:F.map (·.1)=C
 have hc: ∀i,i∈C↔ ∃j,fB F i j=true:=λi=>by
  rw[<-hC];constructor
  .intro h;refine(mM0.mp h).a λx s V=>?_;subst V;obtain⟨j,O⟩:=List.exists_mem_of_ne_nil _ (u.ne x s);exact⟨j,(ZM u.at'.kn).mpr (ZB x s rfl O)⟩
  .rintro⟨j,O⟩;refine((ZM u.at'.kn).mp O).c λx s ac _=>?_;subst ac;exact mem_map_of_mem s
 have ch: ∀i∈C,i∈Hd:=λi hi=>by obtain⟨j,O⟩:=(hc i).mp hi;exact((fi i j).mp O).1
 have aa:C.Nodup:=by rw[<-hC];exact ň.mpr u.at'.kn
 have pL:(Hd.filter λi=>decide (i∈C)).Perm (F.map (·.1)):=by rw[hC];refine(ĭ (M.filter _) aa).mpr λi=>?_;rw[æ,é];exact⟨λh=>h.2,λh=>⟨ch i h,h⟩⟩
 have ae:F.length<=10:=by
  have:=aa.length_le_of_subset ch;rw[<-hC,lM0]at this
  lia
 have X:(Hd.filter λi=>decide (i∈C)).Pairwise (· <·):=v.filter _;have az:↑2<q.length:=(gS.mp u.at'.dic).1;generalize N:q++[.lst ((Hd.filter λi=>!decide (i∈C)).map zA)]=W;have U:Old q W:=by rw[<-N];exact Old.app _ _
 have u2:W[q.length]? =some (.lst ((Hd.filter λi=>!decide (i∈C)).map zA)):=by rw[<-N];simp
 refine(ZJ Q hR (show ↑9<=100 by lia) L (λi hi=>ú.mp hi) nodup_range (by rw[ò];lia) q).a λK k1 k2=>?_;rw[GL k2 hH]at k1;have av:zW (yG 0) eH rZ [none,#[↑2]] [] (Hd.map zA) q=.ok ((Hd.filter λi=>!decide (i∈C)).map zA) q:=yL (yT _) λi hi=>by refine ZB _ rfl ?_ rfl;unfold eH;simp? [V7 u.at'.dic,hC]
 refine((show ∃lt ms S',fW (V8 ↑11 #[↑2] #[q.length] none none none) W=#[V8 ↑11 #[↑2] #[q.length] #[lt] none none,S',0]/\Old W S'/\S'[lt]? =#[ms,2]/\TsAt S' ms (tG rls rs)/\(tG rls rs).length<=100000 by
   obtain⟨r,q,t1,t2,t3,t4⟩:=Os Q hR (show ↑9<=100 by lia) L W;rcases t3 with⟨rfl,e⟩|⟨l,ms,rfl,g1,g2⟩
   .refine⟨q.length,[],q++[.lst []],?_,t2.trans (Old.app _ _),by simp,by rw[e];exact .nil,t4⟩;unfold fW;exists 7,t1
   .refine⟨l,ms,q,?_,t2,g1,g2,t4⟩;unfold fW;exists 7,t1)).o λlt ms J e4 D t3 T3 ak=>?_;have A:Old J (J++[MO.dic []]):=Old.app _ _;refine(Ws (u.at'.mono (U.trans (D.trans A))) aj ag u.ll ae pL (X.imp le_of_lt)).a λw P p1=>?_;have g4:(J++[MO.dic []])[J.length]? =#[iK [],7]:=by simp[iK]
 have tl:w.length<64:=few aj ag P X (ì (ÿ _ _) ao);have u3:=D _ _ u2;have ul:=(gS.mp u3).1;have au:=(gS.mp t3).1;obtain⟨x',Ks,q1,q2,q3,q4⟩:=Dr ak v ao (lt:=lt) (lg:=J.length) (ms:=ms) (C:=C) (ä ul) (ä au) w [] (J++[MO.dic []]) none (A _ _ u3) (A _ _ t3) (λo=>T3.mono λm ds h _=>by have hm:=(gS.mp h).1;rw[xK #[]];exact A _ _ h) g4 (by rw[ġ];lia) .nil P.pc.sub;rw[ġ,Ĳ]at q3;have kk: ∀K,K∈Ks↔ ∃R∈w,gF (tG rls rs) (Pg Hd C R) K:=λK=>by rw[q4];simp
 have hf:fB F=f0 ts rls rs Hd:=by funext i j;rw[Ĉ,fi];simp only[f0,aE,é,ė,ŏ,and_assoc,ne_eq]
 have ai: ∀i∈Hd,decide (i∈C)=Hd.any (f0 ts rls rs Hd i):=λi hi=>by rw[Ĉ,é,hc,Ě,hf];exact⟨λ⟨j,h⟩=>⟨j,((fi i j).mp (hf▸h)).2.1,h⟩,λ⟨j,_,h⟩=>⟨j,h⟩⟩
 have ah:Hd.filter (λi=>decide (i∈C))=C0 ts rls rs Hd:=ŕ ai;have hA: ∀R,Pg Hd C R=Pg Hd (C0 ts rls rs Hd) R:=λR=>ŕ λi hi=>by rw[ai i hi,show decide (i∈C0 ts rls rs Hd)=Hd.any (f0 ts rls rs Hd i) by rw[Ĉ,é];unfold C0;rw[æ];exact⟨λz=>z.2,λz=>⟨hi,z⟩⟩]
 rw[hf,ah]at P;have hT: ∀K,K∈Ks↔Told ts rls rs Hd K:=λK=>by rw[kk];unfold Told;refine exists_congr λR=>?_;rw[Pi P (ah▸X),hA]
 have B: ∀K∈Ks,K.Sublist Hd:=λK hK=>by refine((kk K).mp hK).c λR _ al _=>?_;obtain ⟨p,rfl⟩:=al;exact filter_sublist.trans filter_sublist
 have aw: ∀K∈Ks,Nm K:=λK hK=>⟨by have:=(B K hK).length_le;lia,λi hi=>by have:=(ab i ((B K hK).subset hi)).1;lia⟩
 refine⟨Ks,q2,hT,(by lia),(λz=>?_),B,?_⟩
 .refine(P.pc.cov [] nofun nofun).a λR G _=>?_;refine(Dq t3 T3 ak (M.filter _) (ì (ÿ (λi=>!decide (i∈C) || decide (i∈R)) Hd) #[])).a λK _ hK=>?_;have:=(kk K).mpr ⟨R,G,hK⟩;rw[z]at this;cases this
 .have o4:Old S ((J++[MO.dic []]).set J.length (.fdc (iK Ks))):=(u.at'.old.trans (U.trans (D.trans A))).set (by have:=AI U;have:=AI D;lia) _;obtain⟨T,hT⟩:=o4.is;refine fC (T:=T) rfl ?_ (SK _ _);rw[<-hT];show zN (EC [some ↑11,none,none,none,none,none] S)=_;unfold EC
  exact zY (zB (by unfold CH;simp? [f1];rfl) (zB (by unfold CI;simp? [Wu u.at'.dic ae];rfl) (zB (by
   unfold CK;simp? [Ot (show ↑9<=100 by lia),k1,sP,lm zA Hd];erw [av];simp? [aV];rw[N]) (zB e4 (zB (by unfold CL;simp? [aV];rfl) (zB (by
   unfold CM;simp? [p1,lU];exact q1) (by rw[W1 aw #[] q2 (get_set g4),ě])))))))
theorem Wx(h:Ks≠[])(c: ∀K∈Ks,K.length<=16):most Ks≠[]:=λz=>by
 refine(least (λK:List Nat=>16 - K.length) Ks h).a λK k j=>?_;have:=List.filter_eq_nil_iff.mp z K k;rw[ė,Bool.not_eq_false,Ě]at this;obtain⟨O,a,b⟩:=this;have q:=(Dh.mp b).1;have m:=j O a;have o:=c O a
 lia
end
theorem W2(i j)(S):zBE #[i,5] #[j,5] S=#[.bl (decide (i<=j)),S,1]:=rfl
def EN(S)(a:MO):(S++[a])[↑2]? =some a:=by simp
abbrev Tells(bk:MV)(T:Ch):Prop:= ∀S,zE 1 bQ [.val bk] S=#[T.map zR,S,2]
theorem Wy(a:↑9=n)(j:F (zK rs S).1 (zK rs S).2=.exc c [] (S++T)):qD n F rs S=.exc c [] S:=by unfold qD;rw[iP a,j];show(if(([]:List (Str×MV)).all λp=>QP p.2)=true then(gI S _ _).bind λ_ b=>R.exc c [] b else .no)=_;rw[UH (Ln _) (λl=>by simp)];rfl
def Pk(R)(n):lo n (zR R):=yD (sQ R n)
section
variable{T:Ch}
theorem zCW(a:Tells bk T)(nu)(S):mU [some bk,#[nu,0],none] S=#[[some bk,#[nu,0],#[↑2]],S++[.lst (T.map zR)],0]:=by unfold mU;exists 7,a S,rfl
theorem c_at(c:Tells bk T){K:Db}(a:T[k]? =some K)(S):zE 2 nA [.val bk,.val (zA k)] S=#[zR K,S,1]:=by have g:=EN S (MO.lst (T.map zR));have b:=(gS.mp a).1;refine zX (T:=[.lst (T.map zR)]) rfl ?_ (Pk K _) (λl=>by simp);show zN _=_;exact zY (zB (zCW c _ S) (zB (by unfold dE;simp? [B5,W2,rE g,lM0,lt_int,dT0 (show((k:Nat):Int)<(T.length:Nat) by lia)];rfl) (by unfold BF;simp? [mE g (dS (by rw[î,a];rfl))])))
theorem x_at(j:Tells bk T){a:Int}(h: ¬(0<=a/\a< (T.length) ))(S):qD 2 nA [.val bk,#[a,5]] S=.exc "NoPlace" [] S:=by
 have g:=EN S (MO.lst (T.map zR));refine Wy (T:=[.lst (T.map zR)]) rfl ?_;show zN (uQ [some bk,some _,none] S)=_
 have c:dE [some bk,#[a,0],#[↑2]] (S++[.lst (T.map zR)])=.exc "NoPlace" [] (S++[.lst (T.map zR)]):=by
  unfold dE;by_cases b:0<=a
  .simp? [B5,W2,rE g,lM0,lt_int,dT0 b,dF0 (λz=>h ⟨b,z⟩),Bool.not_false];rfl
  .simp? [B5,W2,lt_int,dF0 b,Bool.not_false,fT0,iF];rfl
 unfold uQ;rw[dW (zCW j _ S)];unfold zF;rw[c];rfl
def W3(O K):decide (zR O=zR K)=decide (O=K):=Ň.mpr ⟨SF,congrArg zR⟩
def Ds(a:itemsOf S p=some (T.map zR))(K):rC false (.val (zR K)) p S=#[.bl (decide (K∈T)),S,1]:=by unfold rC;rw[a];dsimp only;rw[EI (HM K).1 λy b=>by refine(mM0.mp b).a λR _ j=>?_;subst j;exact HM R];dsimp only;rw[List.any_map,List.any_map, <-(show (T.any λO=>decide (O=K))=decide (K∈T) by rw[Ĉ,Ě,é];exact⟨λ⟨O,h,e⟩=>ï e▸h,λh=>⟨K,h,dT0 rfl⟩⟩)];show R.ok (Er.val (MV.bl (T.any λO=>decide _))) S=_;simp only[W3]
theorem c_is(a:Tells bk T)(K)(S):zE 2 uR [.val bk,.val (zR K)] S=#[.bl (decide (K∈T)),S,1]:=by (refine zX (T:=[]) rfl ?_ (JS _ _) (λl=>by simp));show zN (lH [some bk,some _] S)=_;unfold lH mV;simp? [show wX [.val (zR K)] S=.ok _ S from rfl,a S,show MK false (.val (zR K)) (.new _) S=rC false (.val _) (.new _) S from rfl,Ds (show itemsOf S (.new _)=some _ from rfl)];rw[aN];rfl
def sS(T:Ch)(K:Db):MV:=((T.find? λO=>pO O K).map zR).getD .non
theorem W4(w:Tells bk T){K:Db}(s:Nm K)(q: ∀O∈T,Nm O)(S):zE 2 mW [.val bk,.val (zR K)] S=#[sS T K,S,1]:=by
 have b: ∀{O:Db}{x:R0},Nm O->wG [some bk,some (zR K),some (zR O)] S=if pO O K=true then .ok (.ret (.val (zR O))) S else #[[some bk,some (zR K),some (zR O)],S,0]:=λ{O x} u=>by unfold wG bR;simp? [Pb u s]
 have a: ∀(L:List _)(x:R0),(∀O∈L,Nm O)-> ∃j,dU (yG 2) wG [] (L.map zR) [some bk,some (zR K),x] S=match L.find? λO=>pO O K with |some O=>.ok (.ret (.val (zR O))) S|none=>#[j,S,0]:=by
  intro L
  induction L with
  |nil=>exact λx _=>⟨_,rfl⟩
  |cons O L ih=>
   intro x o;have k:=b (x:=x) (o O (.head _))
   cases c:pO O K with
   |true=>
    rw[c,iP rfl]at k;exact⟨[],by rw[í,Bd rfl k,List.find?_cons_of_pos (p:=λO=>pO O K) c]⟩
   |false=>
    rw[c,iN0 xF0]at k;obtain⟨j,e⟩:=ih _ λQ v=>o Q (.tail _ v);exact⟨j,by rw[í,tW rfl k (yT S),e,List.find?_cons_of_neg (by rw[c];exact xF0)]⟩
 obtain⟨j,e⟩:=a T none q;have m:jP [some bk,some (zR K),none] S=match T.find? λO=>pO O K with |some O=>.ok (.ret (.val (zR O))) S|none=>#[j,S,0]:=by unfold jP;exists 7,w S,lU,e
 refine zX (T:=[]) rfl ?_ (by unfold sS;cases T.find? λO=>pO O K with |some O=>exact Pk O _|none=>exact Ln _) (λl=>by unfold sS;cases T.find? λO=>pO O K<;>simp);show zN (dF [some bk,some _,none] S)=_;unfold dF sS;rw[aN]
 cases c:T.find? λO=>pO O K with
 |some O=>rw[c]at m;rw[xA m];rfl
 |none=>rw[c]at m;rw[dW m];rfl
end
def W8(h:S[n]? =some (.ins c fs))(a:c∈XNS):Lx XNS #[n,1] S=#[.bl true,S,1]:=by unfold Lx;dsimp only;rw[h];dsimp only;rw[iP a]
noncomputable abbrev bq(x:Str):MV:=.bl (decide (("NoPlace":Str)=x))
abbrev Q3:List MV:=[bq "Double",bq "NoQuestion",bq "NoRow"]
abbrev Q6:List MV:=[bq "NoRule",bq "NotPlain",bq "NoTable"]
abbrev Q9:List MV:=[bq "NoText",bq "Ring",bq "TooGreat"]
section
def ZO(s:Tells bk T){j:Int}(h: ¬(0<=j/\j< (T.length) ))(S):zE 2 iD [.val bk,#[j,5]] S=#[.bl true,S,1]:=by
 have m:("NoPlace":Str)∈XNS:=by decide
 have o: ∀L,(S++MO.ins "NoPlace" []::L)[↑2]? =some (.ins "NoPlace" []):=λL=>by simp
 have H: ∀L (k:Str),tX XNS k #[↑2,1] (S++MO.ins "NoPlace" []::L)=#[bq k,(S++MO.ins "NoPlace" []::L),1]:=λL k=>(by unfold tX;dsimp only;rw[(o L)];dsimp only;rw[iP m]);have lt: ∀a b c (S:Sto),yW [.val a,.val b,.val c] S=#[[a,b,c],S,2]:=λa b c S=>nG (by simp);have q: ∀a b (S:Sto),yW [.val a,.val b] S=#[[a,b],S,2]:=λa b S=>nG (by simp);refine zX (T:=[.ins "NoPlace" [],.lst Q3,.lst (Q3++Q6),.lst (Q3++Q6++Q9)]) rfl ?_ (JS _ _) (λl=>by simp);show zN (iC [some bk,#[j,0],none,none,none] S)=_;unfold iC;refine zY (zB (ρ':=[some bk,#[j,0],some .non,none,none]) (S':=S) rfl (zB (ρ':=[some bk,#[j,0],#[↑2],none,none]) (S':=S++[.ins "NoPlace" []]) ?_ (zB (ρ':=[some bk,#[j,0],#[↑2],none,none]) (S':=S++[.ins "NoPlace" []]) ?_ (zB (ρ':=[some bk,#[j,0],#[↑2],none,#[↑2+1]]) (S':=S++[.ins "NoPlace" [],.lst Q3]) ?_ (zB (ρ':=[some bk,#[j,0],#[↑2],none,#[↑2+2]]) (S':=S++[.ins "NoPlace" [],.lst Q3,.lst (Q3++Q6)]) ?_ (zB (ρ':=[some bk,#[j,0],#[↑2],none,#[↑2+3]]) (S':=S++[.ins "NoPlace" [],.lst Q3,.lst (Q3++Q6),.lst (Q3++Q6++Q9)]) ?_ ?_))))))
 .unfold qM;simp? [rB,x_at s h];unfold YD;dsimp only;rw[iP m];rfl
 .unfold qN;simp? [H,W8 (o []) m,Bool.not_true,decide_true,fT0,iF]
 .unfold qO;simp? [H,lt];rw[lA,aA];rfl
 .have ad:yF #[↑2+1,1] (.new Q6) (S++[.ins "NoPlace" [],.lst Q3])=#[Q3++Q6,S++[.ins "NoPlace" [],.lst Q3],2]:=FE (QN (by simp)) rfl (fits (show 3+3<=1000000 by decide));unfold qP;simp? [H,lt,ad];rw[lA,aA];rfl
 .have ad:yF #[↑2+2,1] (.new Q9) (S++[.ins "NoPlace" [],.lst Q3,.lst (Q3++Q6)])=#[Q3++Q6++Q9,S++[.ins "NoPlace" [],.lst Q3,.lst (Q3++Q6)],2]:=FE (QN (by simp)) rfl (fits (show 6+3<=1000000 by decide));unfold qQ;simp? [H,lt,ad];rw[lA,aA];rfl
 .have ad:yF #[↑2+3,1] (.new [bq "TooWide",bq "Twice"]) (S++[.ins "NoPlace" [],.lst Q3,.lst (Q3++Q6),.lst (Q3++Q6++Q9)])=#[Q3++Q6++Q9++[bq "TooWide",bq "Twice"],_,2]:=FE (QN (by simp)) rfl (fits (show 9+2<=1000000 by decide));unfold qS;exists 7,H,q,ad
end
theorem zCX(k)(S):M4 #[c,5] (.val (zA k)) S=.ok #[c / 2 ^ k,5] S:=by show _=_;rfl
theorem Ic{K:Db}(b:K.length<=16)(h: ∀i∈K,i<16)(S): ∃L:List Nat,Nm L/\KR [.new (K.map zA)] S=#[L.map zA,S,2]:=by
 have e:KR [.new (K.map zA)] S=#[(PySem.W.sortI (yO (K.map Int.ofNat))).map MV.int,S,2]:=by unfold KR srcOf;dsimp only;rw[vC];dsimp only;rw[iP ⟨by rw[lM0];exact b,λz a=>by refine(mM0.mp a).a λi hi o=>?_;subst o;have:=h i hi;exact⟨Int.natCast_nonneg i,by show _<16;lia⟩⟩]
 have p:=PySem.W.sortI_perm (yO (K.map Int.ofNat));obtain⟨_,j,k⟩:=qG _;rw[lM0]at k;have m: ∀z∈PySem.W.sortI _, ∃i:Nat,z=i/\i<16:=λz a=>by refine(mM0.mp ((j z).mp (p.mem_iff.mp a))).a λi hi q=>?_;subst q;exact⟨i,rfl,h i hi⟩
 refine⟨(PySem.W.sortI _).map Int.toNat,⟨by rw[lM0,p.length_eq];lia,λi hi=>?_⟩,?_⟩
 .refine(mM0.mp hi).a λz a u=>?_;subst u;refine(m z a).a λi v c=>?_;subst v;simpa using c
 .rw[e,ą];congr 2;refine map_congr_left λz a=>?_;refine(m z a).a λi y _=>?_;subst y;rfl
def W9(K)(S):kE [.val (zR K)] S=#[.int  K.length ,S,1]:=by rw[sN,lM0]
abbrev SR(scr bk:MV)(lt n ls:Nat)(a x6 x7 b:R0):Rho:=[some scr,some bk,#[lt],some (zA n),#[ls],a,x6,x7,b]
section
theorem X1(N:n<=10)(M:0<=m){K:Db}(O:K.length<=10)(H: ∀i∈K,i<n)(x8): ∃(L:Db)(G:R0)(T:Sto),Nm L/\jZ (SR scr bk lt n ls (some (zA k)) #[m,0] (some (zR K)) x8) S=#[SR scr bk lt n ls (some (zA k)) #[m,0] (some (zR L)) G,S,0]:=by
 have o:Nm K:=⟨by lia,λi hi=>by have:=H i hi;lia⟩
 have b: ∀S,tU #[m,5] #[64,5] S=.ok #[m / 64,5] S:=λS=>rD ↑4 ↑4 m S;have c: ∀S,tU #[m,5] #[192,5] S=.ok _ S:=λS=>rD ↑4 ↑4 m S;have s: ∀a S,eY #[a,5] #[3,5] S=.ok #[a % 3,5] S:=λa S=>mod_lit ↑4 a S;have B: ∀S,wD [] S=#[zR [],S,1]:=λS=>rfl;unfold jZ;by_cases q:m / 64 % 3=0
 .by_cases y:K=[]
  .refine⟨K,x8,[],o,?_⟩;simp? [b,s,dT0 q,B,OT,dF0 (show¬K≠[]from λz=>z y),dF0 (show¬m / 64 % 3=1 by lia),fT0,iF]
  .have I:0<K.length:=ō.mpr y;refine(bX (m / 192) I).a λj A v=>?_;have w: ∀S,eY _ #[(K.length:Nat),5] S=#[zA j,S,1]:=λS=>by rw[mod_lit #[],A];rfl
   refine Zc (K.take j++K.drop (j+1)) (some (zA j)) ([]) ⟨?_,λi hi=>?_⟩ ?_
   .have:=(take_sublist j K).length_le;simp
    lia
   .exact(ç.mp hi).elim (λz=>o.2 i (ĳ z)) λz=>o.2 i (mem_of_mem_drop z)
   .have D: ∀S,iI (.val (zR K)) none (some (j:Int)) S=#[zR (K.take j),S,1]:=λS=>by show iI _ _ _ S=_;rw[RV,AC, <-map_take]
    have E: ∀S,iI (.val (zR K)) (some ((j:Int)+1)) none S=.ok _ S:=λS=>by show iI _ (some ((j+1:Nat):Int)) _ S=_;rw[RV,GI, <-map_drop]
    have ad: ∀S,yF (.val (zR (K.take j))) (.val (zR (K.drop (j+1)))) S=.ok _ S:=λS=>by
     refine(Az (fits ?_)).trans (by rw[<-Ă]);rw[lM0,lM0,lT,č]
     lia
    simp? [b,s,dT0 q,B,OT,dT0 y];refine zB (ρ':=SR scr bk lt n ls (some (zA k)) #[m,0] (some (zR K)) (some (zA j))) (S':=S) ?_ ?_
    .exists 7,c,W9,w
    .exists 7,show An (.val (zA j)) S=.ok (some (j:Int)) S from rfl,D,show yF (.val (zA j)) #[1,5] S=.ok _ S from rfl,E,ad
 .by_cases u:m / 64 % 3=1
  .by_cases C:0<n
   .refine(bX (m / 192) C).a λj A v=>?_;have w: ∀S,eY #[m / 192,5] (.val (zA n)) S=#[zA j,S,1]:=λS=>by rw[show zA n=.int (n:Nat)from rfl,mod_lit #[],A];rfl
    refine(Ic (K:=K++[j]) (by simp;lia) (λi hi=>by
     rcases ç.mp hi with z|z
     .exact o.2 i z
     .rw[mS.mp z];lia) S).a λL F hs=>?_
    refine Zc L x8 ([]) F ?_
    have ad:yF (.new (K.map zA)) (.new [zA j]) S=#[(K++[j]).map zA,S,2]:=by
     refine(FE rfl rfl (fits ?_)).trans (by rw[Ă];rfl);rw[lM0];show K.length+1<=1000000
     lia
    have J: ∀a (S:Sto),yW [.val a] S=#[[a],S,2]:=λa S=>nG (by simp);simp? [b,s,dF0 q,dT0 u,fT0,iF,show Xt (.val (zA n)) #[0,5] S=.ok _ S from rfl,dT0 (show(0:Int)<(n:Nat) by lia),show HA [.val (zR K)] S=#[K.map zA,S,2] from rfl,c,w,J,ad,hs,AD]
   .refine(Zc K x8 ([]) o ?_);simp? [b,s,dF0 q,dT0 u,fT0,iF,show Xt (.val (zA n)) #[0,5] S=.ok _ S from rfl,dF0 (show¬(0:Int)<(n:Nat) by lia)]
  .refine⟨K,x8,[],o,?_⟩;simp? [b,s,dF0 q,dF0 u,fT0,iF]
end
section
variable{ns:Za}{Ks:Ch}
theorem Id(J:n<=10)(A:T≠[])(C: ∀K∈T,K.length<=10/\ ∀i∈K,i<n)(B:S[lt]? =#[T.map zR,2])(hs:S[ls]? =#[Ks.map zR,2])(M:lt≠ls)(H: ∀K∈Ks,Nm K)(W:Ks.length<=100)(U:k<6)(x6 x7 x8):
  ∃(v:Ch)(N Q u:R0),dR (SR ↑8 bk lt n ls (some (zA k)) x6 x7 x8) S=#[SR ↑8 bk lt n ls (some (zA k)) N Q u,S.set ls (.lst (v.map zR)),0]/\(∀K∈v,Nm K)/\v.length=Ks.length+2:=by
 obtain⟨c,G⟩:=lV ns 1 ↑4 S;refine(LE c (40+(k:Nat)) ⟨by lia,by lia⟩ S).a λm w E=>?_;refine(bX m (ō.mpr A)).a λj O b=>?_;have q:=C _ (Ĩ b);refine(X1 (scr:=.scr (ns.map MV.int)) (bk:=bk) (lt:=lt) (ls:=ls) (k:=k) (S:=S) J w q.1 q.2 x8).n λL u _ I F=>?_;have y:=(gS.mp hs).1;have a:(S.set ls _)[ls]? =#[(Ks++[L]).map zR,2]:=Ā y;refine Zw (Ks++[L]++[((List.range n).filter λi=>decide (m / 2 ^ i % 3=0)).take 3]) (#[m,0]) (some (zR L)) u ⟨?_,(λK s=>?_),(by simp)⟩
 .unfold dR;refine zB (ρ':=SR ↑8 bk lt n ls (some (zA k)) #[m,0] x7 x8) (S':=S) ?_ (zB (S':=S) ?_ (zB F (zB (ρ':=SR ↑8 bk lt n ls (some (zA k)) #[m,0] (some (zR L)) u) (S':=S.set ls (.lst ((Ks++[L]).map zR))) ?_ ?_)))
  .unfold aO;exists 7,G,show yF #[40,5] (.val (zA k)) S=.ok _ S from rfl,E
  .unfold aP;simp? [rE B,lM0,mod_lit (show(0:Int)<(T.length:Nat) by lia),O,mE B (dS (by rw[î,gE b];rfl))]
  .unfold aQ;simp? [kO hs,hX hs (by rw[lM0];lia),Ă];rfl
  .have o: ∀S,zW (yG 0) jY aM [none,#[m,0]] [] ((List.range n).map zA) S=.ok _ S:=λS=>yL (yT _) λi hi=>by refine ZB ([some (zA i),#[m,0]]) rfl ?_ rfl;unfold jY;exists 7,zCX,mod_lit ↑4
   generalize (List.range n).filter (λi=>decide (m / 2 ^ i % 3=0))=Z at o;unfold aR;have D: ∀S,gH [.val (zA n)] S=.ok ⟨(List.range n).map zA,[]⟩ S:=λS=>cH ⟨by lia,by lia⟩;have P: ∀S,iI (.new (Z.map zA)) none (some (3:Int)) S=#[(Z.take 3).map zA,S,2]:=λS=>by show R.ok (Er.new (jA (Z.map zA) none (some ((3:Nat):Int)))) S=_;rw[AC,map_take]
   simp? [kO a,D,lm zA (List.range n)];erw [o];simp? [P,AD,hX a (by rw[lM0,lA];simp;lia),ě];rw[show(Ks++[L]).map zR++[.tup ((Z.take 3).map zA)]=(Ks++[L]++[Z.take 3]).map zR by rw[Ă (l₁:=Ks++[L])];rfl]
 .rcases ç.mp s with z|z
  .rcases ç.mp z with z|z
   .exact H K z
   .rw[mS.mp z];exact I
  .rw[mS.mp z];refine⟨by rw[lT];lia,λi hi=>?_⟩;have:=ú.mp (æ.mp (ĳ hi)).1
   lia
theorem X2(Q:n<=10)(v:T≠[])(H: ∀K∈T,K.length<=10/\ ∀i∈K,i<n)(w:S[lt]? =#[T.map zR,2])(O:↑9=n):
  ∃m:List (List Nat),(∀K∈m,Nm K)/\m.length<=100/\zE 3 uX [.val ↑8,.val ↑11,#[lt,1]] S=#[m.map zR,S,2]:=by
 have c:=(gS.mp w).1
 have E: ∀K∈[[],List.range n],Nm K:=λK o=>by
  rcases mC.mp o with rfl|o
  .exact⟨by simp,nofun⟩
  .rw[mS.mp o];exact⟨by rw[ò];lia,λi hi=>by have:=ú.mp hi;lia⟩
 refine(fD (gs:=[]) (L:=(List.range 6).map zA) (gf:=yG 5) (λi A s=> ∃(Ks:Ch)(u x6 x7 q:R0),A=SR ↑8 ↑11 lt n ↑2 u x6 x7 q/\s=S++[.lst (Ks.map zR)]/\(∀K∈Ks,Nm K)/\Ks.length=2+2 * i) (λi d y A s z0=>by
  refine z0.m λKs u x6 x7 q z0=>?_;refine z0.e λN I o B=>?_
  subst N;subst I;obtain⟨k,P,rfl⟩:=mM0.mp (ë y);have hi:i<6:=by have:=(gS.mp y).1;simpa using this
  obtain⟨m,X,Y,W,G,M,Z⟩:=Id (ns:=ns) Q v H (by rw[è c];exact w) (EN S _) (ä c) o #[] (ú.mp P) x6 x7 q;exact⟨_,_,G,yT _,m,_,_,_,_,rfl,by simp,M,by lia⟩) ⟨_,none,none,none,none,rfl,rfl,E,rfl⟩).d λC s e J=>?_
 obtain⟨m,u,x6,x7,q,rfl,rfl,U,B⟩:=J;have D:KB [#[(n:Nat),5]] S=#[zR (List.range n),S,1]:=by show(if _<=(n:Int)/\(n:Int)<=1000000 then R.ok _ S else .no)=_;rw[iP #[]];unfold Tu;rw[ą];rfl
 have F: ∀(a b:MV) S,yW [.val a,.val b] S=#[[a,b],S,2]:=λa b S=>nG (by simp);refine ZB m U (by rw[B];simp) (EK rfl rfl ?_ (.inr (ZB _ rfl (à _) (EN S _))) (SK _ _));show zN (lR [some _,some _,#[lt],none,none,none,none,none,none] S)=_;unfold lR;exact zY (zB (by unfold pH;simp? [LN,sN,lM0,O];rfl) (zB (by unfold pI;simp? [show wD [] S=.ok _ S from rfl,D,F];rfl) (zB (by unfold pK;simp? [cH (j:=6) ⟨by lia,by lia⟩];exact e) (by rfl))))
end
noncomputable abbrev LR(scr bk:MV)(j a b x6 x7 c:R0):Rho:=[some scr,some bk,#[0],j,a,b,x6,x7,c]
theorem Xa{T:Ch}(h:S[l]? =#[T.map zR,2]):iQ (.new (T.map zR)) #[l,1] S=#[.bl true,S,1]:=by
 have e:MG S #[l,1]=some (.ls (T.map zR)):=by show(wN S _).map Vw.ls=_;rw[fE h];rfl
 have q:BS S zL (.new (T.map zR)) #[l,1]=some true:=by
  obtain⟨bs,k,c⟩:=EH (e:=eqv S zL) λa j b m=>by obtain⟨A,_,rfl⟩:=mM0.mp j;obtain⟨B,_,rfl⟩:=mM0.mp m;exact iE _ (HM A).1 (HM B).1 (by have:=(HM A).2;unfold zL;omega)
  rw[dT0 rfl,aE]at c;unfold BS;refine qq e ?_;show(if(T.map zR).length=(T.map zR).length then(HQ _ _ _).map λbs=>bs.all id else some false)=_;refine qq (iP rfl) (qq k ?_);show some (bs.all id)=_;rw[c.1]
 unfold iQ;exact qq q rfl
def ZP(T)(K):((T.filter λO=>pO O K).map zR++[MV.non])[0]? =some (sS T K):=by
 unfold sS
 induction T with
 |nil=>rfl
 |cons O T ih=>
  cases c:pO O K with
  |true=>rw[List.filter_cons_of_pos (p:=λO=>pO O K) c,List.find?_cons_of_pos (p:=λO=>pO O K) c];rfl
  |false=>rw[List.filter_cons_of_neg (by rw[c];exact xF0),List.find?_cons_of_neg (by rw[c];exact xF0),ih]
def ZQ(S)(T)(K):MH (.val (sS T K)) (.val (sS T K)) S=#[.bl false,S,1]:=by
 unfold sS
 cases T.find? λO=>pO O K with
 |none=>rfl
 |some O=>
  show MH (.val (zR O)) (.val (zR O)) S=_;rw[OT,dF0 (by simp)]
section
def X3(m:Tells bk T)(c:S[0]? =#[T.map zR,2])(b:k<(T.length))(x4 x5 x6 x7 x8): ∃j,IK (LR scr bk (some (zA k)) x4 x5 x6 x7 x8) S=#[LR scr bk (some (zA k)) j x5 x6 x7 x8,S,0]:=by have a:=gE b;refine⟨some (zR T[k]),zB (by unfold FV;simp? [c_at m a];rfl) ?_⟩;unfold FW;simp? [show yE _ (.val (zA k)) S=.ok _ S from mE c (dS (by rw[î,a];rfl)),OT,dF0 (show¬T[k]≠T[k] by simp),Bool.not_true,fT0,iF]
def X4(b:Tells bk T){a:Int}(h: ¬(0<=a/\a< (T.length) ))(x3 x4 x5 x7 x8):ED (LR scr bk x3 x4 x5 #[a,0] x7 x8) S=#[LR scr bk x3 x4 x5 #[a,0] x7 x8,S,0]:=by unfold ED FX;simp? [ZO b h,Bool.not_true,fT0,iF]
theorem X5(c:Tells bk T)(m: ∀O∈T,Nm O)(y:(T.length)<64)(b:S[0]? =#[T.map zR,2]){K:Db}(s:Nm K)(x3 x4 x5 x6 x8): ∃v j S',IL (LR scr bk x3 x4 x5 x6 (some (zR K)) x8) S=#[LR scr bk x3 v x5 x6 (some (zR K)) j,S',0]/\S'[0]? =#[T.map zR,2]:=by
 have u:=(gS.mp b).1
 have o: ∀S,S[0]? =some _->zW (yG 0) AA FZ [none,some (zR K)] [(0,T.map zR)] (T.map zR) S=.ok ((T.filter λO=>pO O K).map zR) S:=λS b=>yL (xS b) λO w=>by
  have hi:zW (yG 0) vZ FY [none,some (zR O)] [] (K.map zA) S=.ok _ S:=yL (yT _) λi hi=>by refine ZB ([some (zA i),some (zR O)]) rfl ?_ rfl;unfold vZ;exists 7,SE
  refine ZB ([some (zR O),some (zR K)]) rfl ?_ rfl;unfold AA;simp? [show Fg (.val (zR K)) S=.ok ⟨K.map zA,[]⟩ S from rfl,lm zA K];erw [hi];simp? [Lr,Vs];refine congrArg (R.ok · S) (Ĉ.mpr ?_);unfold pO;rw[List.isEmpty_iff,List.map_eq_nil_iff,List.filter_eq_nil_iff,ă];simp
 have le:=ÿ (λO=>pO O K) T
 refine(Zc (some (.bl (decide (K∈T)))) (#[↑2]) (S++[.lst ((T.filter λO=>pO O K).map zR++[.non])]) (zB (by unfold GA;simp? [c_is c];rfl) (zB (by
  unfold GB;simp? [Ce,Ds (show itemsOf S #[0,1]=some (T.map zR) by unfold itemsOf;exact fE b) K,zBH,ŉ,Bool.not_true,fT0,iF];rfl) (zB (by
  unfold GC;simp? [wR b,lm zR T];erw [o S b];simp? [show∀a (S:Sto),yW [.val a] S=#[[a],S,2] from λa S=>nG (by simp),FE (p:=.new ((T.filter λO=>pO O K).map zR)) (q:=.new [.non]) (S:=S) rfl rfl (by rw[lM0];unfold sizeLine;simp;lia)];rfl) ?_))) (by rw[è u];exact b))
 unfold GD;simp? [W4 c s m,show yE _ #[0,5] _=.ok _ _ from mE (EN S _) (dS (k:=0) (ZP T K)),ZQ,fT0,iF]
end
theorem Pl(ns:Za)(h:ns.length<=63): ∃S,VL [.scr (ns.map MV.int)] []=#[.bl true,S,1]:=by
 refine(Vx ns h).i λts rls rs V=>V.g λhT q W H af hb=>?_;refine((show ∃T:List (List Nat),T≠[]/\(T.length)<64/\(∀K∈T,K.Pairwise (· <·)/\K.length<=10/\ ∀i∈K,i<↑9)/\ ∀S,zE 1 bQ [.val ↑11] S=#[T.map zR,S,2] by
   obtain⟨Hd,_,N⟩:=ZJ q W #[] #[] (λi hi=>ú.mp hi) nodup_range (by rw[ò];lia) [];obtain⟨u,y⟩:=Ym N;have aa:=ì ((show Hd.Nodup from u.imp ä).length_le_of_subset λi hi=>ú.mpr (y i hi).1) (by rw[ò];exact H);obtain⟨Ks,k1,k2,k3,k4,Z,_⟩:=Yn q W H #[] N [];have G:=AK (most Ks);refine⟨ZN (most Ks),λz=>?_,?_,λK B=>?_,λS=>?_⟩
   .rw[z]at G;exact Wx k4 (λK B=>by have:=(Z K B).length_le;lia) G.symm.eq_nil
   .rw[G.length_eq];exact Ř (ÿ _ _) k3
   .have hs:=Z K (æ.mp (G.mem_iff.mp B)).1;exact⟨u.sublist hs,by have:=hs.length_le;lia,λi hi=>(y i (hs.subset hi)).1⟩
   .obtain⟨X,P,q2,_,_,_,q6⟩:=Yn q W H #[] N S;have pm:=(ĭ P k1).mpr λK=>(q2 K).trans (k2 K).symm;rw[q6,OU ((AK _).trans ?_) (SO _)];rw[show most Ks=Ks.filter (λK=>!X.any λO=>HV O K)from ŕ λK _=>by rw[pm.any_eq]];exact pm.filter _)).elim λT a0=>a0.e λY t1 U F=>?_;have I: ∀O∈T,Nm O:=λO hO=>⟨by have:=(U O hO).2.1;lia,λi hi=>by have:=(U O hO).2.2 i hi;lia⟩
 have tl:=ō.mpr Y;obtain⟨c,hc⟩:=lV ns 2 ↑4 [.lst (T.map zR)];refine(LE c 60 ⟨by decide,by decide⟩ [.lst (T.map zR)]).a λm ae hm=>?_
 obtain⟨b,b0,b9,J⟩: ∃b:Int,0<b/\b<=10 ^ 9/\qW [MV.int 10,.int 1000,.int (10 ^ 9)] (c % 3)=#[b,0]:=by
  rcases (show c % 3=0\/c % 3=1\/c % 3=2 by lia)with e|e|e<;>rw[e]
  .exact⟨10,by decide,by decide,rfl⟩
  .exact⟨1000,by decide,by decide,rfl⟩
  .exact⟨10 ^ 9,by decide,by decide,rfl⟩
 have f0:=eN m (show b≠0 by lia);have f9:=eL m b0
 obtain⟨w,w0,hw⟩: ∃w:Int,0<=w/\qW [MV.int 1,.int (10 ^ 20)] (m % b % 2)=#[w,0]:=by
  rcases (show m % b % 2=0\/m % b % 2=1 by lia)with e|e<;>rw[e]
  .exact⟨1,by decide,rfl⟩
  .exact⟨10 ^ 20,by decide,rfl⟩
 have g0:=Int.mul_nonneg f0 w0;obtain⟨ah,S3,e3,s,a,rfl,rfl⟩:=fD (gs:=[]) (gf:=yG 3) (body:=IK) (λ_ o S=> ∃s a,o=LR ↑8 ↑11 s a none none none none/\S=[.lst (T.map zR)]) (λi d v o S ⟨s,a,A,D⟩=>by subst A;subst D;obtain⟨k,E,rfl⟩:=mM0.mp (ë v);obtain⟨y4,e⟩:=X3 F (S:=[.lst (T.map zR)]) rfl (ú.mp E) a none none none none;exact⟨_,_,e,yT _,_,_,rfl,rfl⟩) (Zy none none rfl rfl)
 obtain⟨ab,S6,e6,C,rfl,rfl⟩:=fD (gs:=[]) (L:=[(T.length:Int),(T.length:Int)+m % b * w, -1, -(T.length:Int), -1 - m % b * w].map MV.int) (gf:=yG 6) (body:=ED) (λ_ o S=> ∃C,o=LR ↑8 ↑11 s a #[m % b * w,0] C none none/\S=[.lst (T.map zR)]) (λi d v o S ⟨C,A,D⟩=>by
  subst A;subst D;refine(mM0.mp (ë v)).a λnu E ac=>?_;subst ac;refine⟨_,_,X4 F (λz=>?_) _ _ _ _ _,yT _,_,rfl,rfl⟩;simp only[mC,nM,or_false]at E
  lia) ⟨none,rfl,rfl⟩
 refine(X2 (ns:=ns) (lt:=0) (S:=[.lst (T.map zR)]) H Y (λK B=>(U K B).2) rfl (ts:=ts) (rls:=rls) (rs:=rs) rfl).c λX P q2 q3=>?_;obtain⟨ag,S7,e7,y4,y7,y8,rfl,h7⟩:=fD (gs:=[]) (L:=X.map zR) (gf:=yG 7) (body:=IL) (λ_ o S=> ∃a x7 Q,o=LR ↑8 ↑11 s a #[m % b * w,0] C x7 Q/\S[0]? =#[T.map zR,2]) (λi d v o S ⟨a,x7,Q,A,D⟩=>by subst A;refine(mM0.mp (ë v)).a λK E al=>?_;subst al;obtain⟨y4,y8,S',e,g⟩:=X5 F I t1 D (P K E) s a #[m % b * w,0] C Q;exact⟨_,_,e,yT _,_,_,_,rfl,g⟩) (S:=[.lst (T.map zR)]) (Zc a none none rfl rfl);have p9: ∀S,QF #[10,5] #[9,5] S=.ok #[10 ^ 9,5] S:=Bc (by unfold Fm;decide+kernel);have M: ∀S,QF #[10,5] #[20,5] S=.ok #[10 ^ 20,5] S:=Bc (by unfold Fm;decide+kernel);refine⟨S7,?_⟩;show zN (Bz [some ↑8,none,none,none,none,none,none,none,none] [])=_;unfold Bz
 exact zY (zB (by unfold RA;simp? [hb];rfl) (zB (ρ':=LR ↑8 ↑11 none none none none none none) (S':=[.lst (T.map zR)]) (by unfold RB;simp? [F []];rfl) (zB (by
  unfold RD;simp? [rE (S:=[.lst (T.map zR)]) (l:=0) rfl,lM0,cH (S:=[.lst (T.map zR)]) (j:=(T.length:Nat)) ⟨by lia,by lia⟩];exact e3) (zB (by unfold RE;simp? [hc,hm,p9,mod_lit (show(0:Int)<3 by decide),BU J,mod_lit b0];rfl) (zB (by
  unfold RF;simp? [M,mod_lit (show(0:Int)<2 by decide),G5,BU hw,tV (show -(2 ^ 64)<m % b/\m % b<2 ^ 64 by lia)];rfl) (zB (by
  unfold RG;simp? [rE (S:=[.lst (T.map zR)]) (l:=0) rfl,lM0,show∀i S,Ar #[i,5] S=.ok #[-i,5] S from λ_ _=>rfl,Q4,lU];exact e6) (zB (by unfold RH;simp? [q3,lU];exact e7) (by unfold RI;exists 7,F S7,Xa h7))))))))
noncomputable abbrev XCS(a:Nat->Addr):List (Str×Addr):=[("TooGreat",a 0),("NoText",a 1),("NoPlace",a 2),("NotPlain",a 3),("NoTable",a 4),("NoRule",a 5),("NoRow",a 6),("Twice",a 7),("NoQuestion",a 8),("Double",a 9),("TooWide",a 10),("Ring",a 11)]
def Il:((XCS xl).map (·.1)).Nodup:=show XNS.Nodup from by decide
noncomputable def top(i:Nat):Stmt:=PySem.Challenge.pw_mendsure_k21_the_one_of_a_number.main.body.getD i (.Pass ⟨0,0,0,0⟩)
local macro_rules
 | `(tactic|exists 1,$t)=>`(tactic|with_reducible show $t)
 | `(tactic|exists 7,$t)=>`(tactic|exists 1,zP _ _ _ $t)
 | `(tactic|exists 3,$t)=>`(tactic|exists 1,zP _ _ (.Call (.Name $t _) _ _ _) _)
 | `(tactic|exists 4,$t)=>`(tactic|exists 1,zP _ _ (.Call (.Attribute _ $t _) _ _ _) _)
 | `(tactic|exists 5,$t)=>`(tactic|exists 1,zP _ _ (.BinOp _ $t _ _) _)
 | `(tactic|exists 6,$t)=>`(tactic|exists 1,zP _ _ (.Compare _ [$t] _ _) _)
 | `(tactic|and_intros)=>`(tactic|repeat' (first |(exists 5,IA _ _ _ (λ_ _=>R.no),Ki)|(exists 5,tI _ _ [_] _,tT ?_)|(exists 5,tI _ _ (_::_) _,gT ?_ ?_)|(exists 5,tI _ _ [] _,XJ)|(exists 5,IA _ _ (.Assign _ (.ListComp _ _ _ _) _) _,Nd ‹_› ?_ (λ_ _ _ _ _=>?_) (λ_ _ _ _=>?_) (λ_ _ _ _=>?_))|(exists 5,IA _ _ (.Assign [.Name _ _] _ _) _,BR _ ‹_› ?_)|(exists 5,IA _ _ (.Assign _ _ _) _,C6 ?_ ?_)|(exists 5,IA _ _ (.Return _ _) _,PY ?_)|(exists 5,IA _ _ (.For _ _ _ _ _) _,C8 PassesOwn.never rfl ?_ ?_ ?_)|(exists 5,IA _ _ (.If _ _ _ _) _,Kj ?_ ?_ ?_)|(exists 5,IA _ _ (.Expr _ _) _,Ri ?_)|(exists 5,IA _ _ (.While _ _ _ _) _,Km _ PassesOwn.never ?_ ?_)|(exists 1,zP _ _ (.Name _ _) _;first |(exists 5,zP _ _ (.Name _ _) (vJ _),yR _)|exact Am rfl (by exists 6) Sk|exact Am rfl (by exists 6) DE|exact Am rfl (by exists 6) F3|exact Rb rfl ‹_› |exact Am rfl (by exists 6) F4)|(exists 1,zP _ _ (.Constant _ _ _) _;first |exact Ka|exact Xm|exact Kc _|exact Kb)|(exists 1,zP _ _ (.UnaryOp _ _ _) _;first |exact B4|refine Rz ?_|refine Kf ?_)|(exists 5,zP _ _ (.List _ _) _,JH ?_)|(exists 5,zP _ _ (.Tuple _ _ _) _,C1 ?_)|(exists 1,zP _ _ (.BinOp _ _ _ _) _;first |(exists 5,zP _ _ (.BinOp _ .Add _ _) _,QH ?_ ?_)|(exists 5,zP _ _ (.BinOp _ .Mod _ _) _,D8 ?_ ?_)|(exists 5,zP _ _ (.BinOp _ .Mult _ _) (dJ lZ _ _),E1 ?_ ?_)|(exists 5,zP _ _ (.BinOp _ .FloorDiv _ _) _,D7 ?_ ?_)|(exists 5,zP _ _ (.BinOp _ .Pow _ _) _,D9 ?_ ?_)|(exists 5,zP _ _ (.BinOp _ .Sub _ _) _,D6 ?_ ?_)|(exists 5,zP _ _ (.BinOp _ .RShift _ _) _,M5 ?_ ?_))|(exists 1,zP _ _ (.Compare _ _ _ _) _;first |(exists 5,zP _ _ (.Compare _ [.Eq] _ _) _,zAW (Room.units ‹_›) ?_ ?_)|(exists 5,zP _ _ (.Compare _ [.In] _ _) _,zBF (Room.units ‹_›) ?_ ?_)|(exists 5,zP _ _ (.Compare _ [.NotEq] _ _) _,zAY (Room.units ‹_›) ?_ ?_)|(exists 5,zP _ _ (.Compare _ [.Lt] _ _) _,zBA (Room.units ‹_›) ?_ ?_)|(exists 5,zP _ _ (.Compare _ [.Gt] _ _) _,zBC ?_ ?_))|(exists 1,zP _ _ (.Subscript _ _ _) _;first |(exists 5,zP _ _ (.Subscript _ _ _) (dJ yE _ _),Xu ?_ ?_)|(exists 5,zP _ _ (.Subscript _ _ _) (tJ iI _ _ _),E4 ?_ ?_ ?_)|(exists 5,zP _ _ (.Subscript _ _ _) (dJ QW _ _),N1 ?_ ?_))|(exists 5,zP (zM _ _ _ _ _ _ _ _) _ (.ListComp _ _ _ _) _,Ng ‹_› ?_ (λ_ _ _ _ _=>?_) (λ_ _ _ _=>?_) (λ_ _ _ _=>?_))|(exists 5,zP _ _ (.ListComp _ _ _ _) _,Nc ‹_› ?_ (λ_ _ _ _ _=>?_) (λ_ _ _ _=>?_) (λ_ _ _ _=>?_))|(exists 5,zP _ _ (.Attribute _ _ _) _,Tw ‹_› ?_)|(exists 5,zP _ _ (.Dict _ _ _) _,Lv)|(exists 1,zP _ _ (.BoolOp _ _ _) _;first |refine B6 ?_|refine B7 ?_ ?_|refine zAU ?_ ?_)|(exists 1,zP _ _ (.Call (.Attribute _ _ _) _ _ _) _;first |(exists 6,"append",Fs ?_ ?_)|(exists 6,"parts_in_turn",DO ‹_› (Room.mono ‹_› (by decide)) ?_ ?_)|(exists 6,"lacks",DO ‹_› (Room.mono ‹_› (by decide)) ?_ ?_)|(exists 6,"setdefault",M9 ?_ ?_)|(exists 6,"extend",Gh ?_ ?_)|(exists 6,"parts_them",DO ‹_› (Room.mono ‹_› (by decide)) ?_ ?_)|(exists 6,"pop",Um ?_ ?_)|(exists 6,"bars",DO ‹_› (Room.mono ‹_› (by decide)) ?_ ?_)|(exists 6,"join",Ub ?_ ?_))|(exists 1,zP _ _ (.Call (.Name _ _) _ _ _) _;first |(exists 6,"len",_,wW NP Lc rfl (by exists 6) QK ?_)|(exists 6,"tuple",_,pZ MC Lg rfl (by exists 6) DE ?_)|(exists 6,"isinstance",_,wW Lf E8 rfl (by exists 6) ML ?_)|(exists 6,"any",_,wW DP (Mv rfl) rfl (by exists 6) Lh ?_)|(exists 6,"list",(bJ _ HA),pZ PB Sj rfl (by exists 6) Ay ?_)|(exists 6,"all",_,wW PK (E7 rfl) rfl (by exists 6) E9 ?_)|(exists 6,"tuple",(bJ _ KB),Tv rfl rfl (by exists 6) rfl (by exists 6) ?_)|(exists 6,"Never",_,KE ‹_› (Room.mono ‹_› (by decide)) rfl ?_)|(exists 6,"Apart",_,KE ‹_› (Room.mono ‹_› (by decide)) rfl ?_)|(exists 6,"Tie",_,KE ‹_› (Room.mono ‹_› (by decide)) rfl ?_)|(exists 6,"dict",_,pZ Gy (Ut rfl) rfl (by exists 6) Us ?_)|(exists 6,"tuple",(bJ _ OG),pZ Gv (Uo rfl) rfl (by exists 6) DE ?_)|(exists 6,"len",_,wW Gz Uu rfl (by exists 6) QK ?_)|(exists 6,"sorted",(bJ _ OH),wW Gw (Uq rfl) rfl (by exists 6) rF ?_)|(exists 6,"list",(bJ _ FL),pZ YR (Nb rfl) rfl (by exists 6) Ay ?_)|(exists 6,"len",(zCK _ _),Vf rfl rfl (by exists 6) rfl (by exists 6) ?_ ?_)|(exists 6,"sorted",(bJ _ UV),wW Gd Tt rfl (by exists 6) rF ?_)|(exists 6,"sorted",(bJ _ KF),wW (Gj (Room.u128 ‹_›)) Uh rfl (by exists 6) rF ?_)|(exists 6,"min",_,wW (Ec rfl) L3 rfl (by exists 6) L4 ?_)|(exists 6,"sorted",(bJ _ KR),Vd rfl rfl (by exists 6) rfl (by exists 6) ?_)|refine KA ‹_› (Room.mono ‹_› (by decide)) rfl ?_|refine KA (Cal.noX ‹_›) (Room.mono ‹_› (by decide)) rfl ?_)|(exists 1,BB _ _ (.Compare _ _ _ _) _;first |(exists 5,BB _ _ (.Compare _ [.Eq] _ _) _,zAX (Room.units ‹_›) ?_ ?_)|(exists 5,BB _ _ (.Compare _ [.NotEq] _ _) _,zAZ (Room.units ‹_›) ?_ ?_)|(exists 5,BB _ _ (.Compare _ [.NotIn] _ _) _,Lb (Room.units ‹_›) ?_ ?_)|(exists 5,BB _ _ (.Compare _ [.In] _ _) _,M3 ?_ ?_)|(exists 5,BB _ _ (.Compare _ [.Gt] _ _) _,zBD ?_ ?_)|(exists 5,BB _ _ (.Compare _ [.Lt] _ _) _,zBB (Room.units ‹_›) ?_ ?_)|(exists 5,BB _ _ (.Compare _ [.NotIn] _ _) _,Gr ?_ ?_))|(exists 5,BB _ _ (.UnaryOp _ _ _) _,PV ?_)|(exists 5,BB _ _ (.BoolOp _ _ _) _,Xp ?_)|(exists 5,BB _ _ _ _,JG ?_)|(exists 1,Xl _ _ _ _;first |refine Kg ?_|refine Xo ?_ ?_|refine Rf ?_|refine B8 ?_ ?_)|(exists 1,GY _ _ _ _;first |refine yZ ?_ ?_|exact lY)|(exists 1,B3 _ _ _ _;first |refine Rh ?_|exact Rg)|(exists 1,QA _ _ _ _;first |exact Rq|refine Rr ?_)|(exists 1,UC _ _ _ _ _;first |(exists 5,UC _ _ _ _ (bJ _ FA),Rm ?_)|(exists 5,UC _ _ _ _ (bJ _ gH),Fi rfl (by exists 6) ?_)|(exists 5,UC _ _ _ _ (bJ _ Fg),C7 ?_)|(exists 5,UC _ _ _ _ (bJ _ Ls),Td rfl (by exists 6) ?_)|(exists 5,UC _ _ _ _ (bJ _ QX),Ux ?_))|(exists 5,Kk _ _ (.Name _ _) _,Rj _ ‹_›)|(exists 1,Kk _ _ _ _;first |refine C5 rfl ?_|(exists 5,Kk _ _ _ (DJ DG _ _),Tg (Room.units ‹_›) ?_ ?_)|(exists 5,Kk _ _ _ (DJ NS _ _),F5 ?_ ?_))|(exists 1,Kl _ _ _ _;first |refine Rk ?_ ?_|exact C4)|(exists 5,Kn _ _ _ (.Name _ _) _,Ro _ ‹_›)|(exists 5,Kn _ _ _ _ _,D2 rfl ?_)|(exists 1,Ko _ _ _ _ _;first |refine Rp ?_ ?_|exact C9)))
 | `(tactic|exists 6)=>`(tactic|((show mg _=none);exact e.z.zz (by decide+kernel)))
local macro_rules
 | `(tactic|exists 3,$i,$f:ident,$xs:ident,*)=>`(tactic|(refine okA $f (e.d.df (i:=$i) (by decide+kernel)) (λ_ _ _ _ _ _ _ _ _ _=>?_);delta $f $xs*; (first |refine tT ?_|refine gT ?_ ?_);and_intros))
local macro_rules
 | `(tactic|exists 0,$f:ident,$xs:ident,*)=>`(tactic|(refine okL $f ‹_› (λ_ _ _ _ _ _ _ _ _=>?_);delta $f $xs*; (first |refine tT ?_|refine gT ?_ ?_);and_intros))
def Pm:FnScope ["self","parts"] ["self","parts"] (zI (inClass (top 7) 0)):=fsK ↑10
def EO:FnScope HD ["book","number"] (zI (top 47)):=fsK ↑10
def yS:FnScope uA [Ţ,ţ] (zI (top 64)):=fsK ↑10
local macro_rules
 | `(tactic|exists 5,$p,$r)=>`(tactic|((with_reducible show $p);refine $r))
local macro_rules
 | `(tactic|exists 6,$n,$f,$r)=>`(tactic|((with_reducible show zP _ _ (.Call (.Name $n _) _ _ _) $f);refine $r))
local macro_rules
 | `(tactic|exists 6,$n,$r)=>`(tactic|((with_reducible show zP _ _ (.Call (.Attribute _ $n _) _ _ _) _);refine $r))
local macro_rules
 | `(tactic|exists 4,$g)=>`(tactic|have:=$g e)
local macro_rules
 | `(tactic|exists 4,$g,$h,$gs,*)=>`(tactic|(have:=$g e;exists 4,$h,$gs,*))
local macro_rules
 | `(tactic|exists 4,$g,$h)=>`(tactic|(have:=$g e;have:=$h e))
def AllP{α:Type}(p:α->Prop):List α->Prop
 |[]=>True
 |a::r=>p a/\AllP p r
theorem AllP.at: ∀{l},AllP p l->a∈l->p a
 |b::l,h,z=>by
  rcases mC.mp z with z|z
  .cases z;exact h.1
  .exact AllP.at h.2 z
abbrev AllD(K:O0)(mg:G0)(l:List (Str×Nat)):Prop:=AllP (λ|(x,i)=>DefM K mg x (top i)) l
def AllD.df{K:O0}(d:AllD K mg l)(h:(x,i)∈l):DefM K mg x (top i):=d.at h
def Kls(K:O0)(c b q:Str)(j:Stmt)(l:List (Str×Str×Stmt)):Prop:= ∃C,OC K c C/\NoAttr K C b/\(∃f a,Mk K C f/\Fun K "__init__" q j f a)/\AllP (λ|(m,q,st)=> ∃f a,Meth K C m f/\Fun K m q st f a) l
section
variable{K:O0}{mg:G0}{st:Stmt}
def Kls.fl(H:Kls K c fld q st0 l): ∃C,OC K c C/\NoAttr K C fld:=let ⟨C,o,a,_⟩:=H;⟨C,o,a⟩
def Kls.mk(H:Kls K c fld q st0 l)(X:K.In h)(s:h.Ns mainGlobals mg)(g: ∀f j,Fun K "__init__" q st0 f j->FnOk P w K mg base tH 1 f j ["self",par] (Y3 K fld))
  (hb: ∀ kV k v  y  m ct  u ,u.length=2->bindArgs (PySem.W.fnOf "__init__" q (aZ st0) (xW st0) (zI st0) .none kV k v y m ct) ⟨u,[]⟩=pure ((["self",par]:D0).zip u):=by exact λ_ _ _ _ _ _=>Nf (by(repeat intro _);rfl)):zBU P w K mg base c fld:=
 let ⟨C,o,a,⟨f,j,mk,b⟩,_⟩:=H;(Zw C f j par ⟨o,a,mk,g f j b,b.binds hb,PySem.W.mg_of X s o.ns⟩)
def Kls.mt(H:Kls K c fld q st0 l){q:Str}(z:(m,q,st)∈l)(g: ∀f j,Fun K m q st f j->FnOk P w K mg base tH k f j ps (JM ⟨K,mg,P,w⟩ n F))
  (hb: ∀ kV u G  I  v ct  y ,y.length=ps.length->bindArgs (PySem.W.fnOf m q (aZ st) (xW st) (zI st) .none kV u G I v ct) ⟨y,[]⟩=pure (ps.zip y):=by exact λ_ _ _ _ _ _=>Nf (by(repeat intro _);rfl)): ∃C B j ps,OC K c C/\Meth K C m B/\FnOk P w K mg base tH k B j ps (JM ⟨K,mg,P,w⟩ n F)/\Binds K j ps []:=
 let ⟨C,o,_,_,s⟩:=H;let ⟨f,j,b,a⟩:=s.at z;(Zw C f j ps ⟨o,b,g f j a,a.binds hb⟩)
def AllP.zz(H:AllP (λx=>mg x=none) z)(a:x∈z):mg x=none:=H.at a
def Im(K:O0)(mg:G0)(M:Addr)(c:Str)(C:Addr):Prop:=mg c=some (.ref C)/\ ∃i,UN K C (.ref M::EY) i
end
structure EV(P:ś)(w:World)(K:O0)(mg:G0)(base:Heap):Prop where
 d:AllD K mg (("is_whole",1)::("side_value",3)::("fulfils",4)::("fulfils_all",5)::("cells_in",6)::("rule_of",11)::("rules_of",13)::("all_rows",14)::("pairs_of",15)::("key_of",16)::("breaks_of_two",17)::("ties_of",18)::("has_one_of",19)::("untied_among",20)::("tied_within",21)::("held",22)::("clashes",23)::("foes_of",40)::("check_width",41)::("is_full",42)::("peaceful_sets",43)::("has_all",44)::("has_all_and_more",45)::("mended",46)::("mended_at",47)::("is_mended",48)::("mended_with",49)::("_law_cell_at",51)::("_law_mix",52)::("_law_take",53)::("_law_well",54)::("_law_word",55)::("_law_pool",56)::("_law_tables",57)::("_law_row",58)::("_law_rows",59)::("_law_side",60)::("_law_tests",61)::("_law_rule",62)::("_law_book",63)::(ŧ,64)::("_law_sets",65)::("law",66)::[])
 z:AllP (λx=>mg x=none) ["ValueError","all","any","bool","dict","enumerate","int","isinstance","len","list","min","range","set","sorted","str","tuple"]
 k_Rule:Kls K "Rule" "parts" "Rule.__init__" (inClass (top 7) 0) [("bars","Rule.bars",inClass (top 7) 1),("parts_them","Rule.parts_them",inClass (top 7) 2),("lacks","Rule.lacks",inClass (top 7) 3)]
 k_Never:Kls K "Never" "parts" "Rule.__init__" (inClass (top 7) 0) [("parts_them","Rule.parts_them",inClass (top 7) 2),("lacks","Rule.lacks",inClass (top 7) 3),("bars","Never.bars",inClass (top 8) 0)]
 k_Apart:Kls K "Apart" "parts" "Rule.__init__" (inClass (top 7) 0) [("bars","Rule.bars",inClass (top 7) 1),("lacks","Rule.lacks",inClass (top 7) 3),("parts_in_turn","Apart.parts_in_turn",inClass (top 9) 0),("parts_them","Apart.parts_them",inClass (top 9) 1)]
 k_Tie:Kls K "Tie" "parts" "Rule.__init__" (inClass (top 7) 0) [("bars","Rule.bars",inClass (top 7) 1),("parts_them","Rule.parts_them",inClass (top 7) 2),("lacks","Tie.lacks",inClass (top 10) 0)]
 h: ∃h,K.In h/\h.Ns mainGlobals mg
 m_MOST_CLASHING: ∃t,mg "MOST_CLASHING"=some (.int (15) t)
 x: ∃M c0 c1 c2 c3 c4 c5 c6 c7 c8 c9 c10 c11,(mg "MendError"=some (.ref M)/\UN K M EY none)/\Im K mg M "TooGreat" c0/\Im K mg M "NoText" c1/\Im K mg M "NoPlace" c2/\Im K mg M "NotPlain" c3/\Im K mg M "NoTable" c4/\Im K mg M "NoRule" c5/\Im K mg M "NoRow" c6/\Im K mg M "Twice" c7/\Im K mg M "NoQuestion" c8/\Im K mg M "Double" c9/\Im K mg M "TooWide" c10/\Im K mg M "Ring" c11/\UN K c2 (.ref M::EY) none/\[M,c0,c1,c2,c3,c4,c5,c6,c7,c8,c9,c10,c11].Nodup
theorem xt1{R:Prop}{A:Addr->Addr->Addr->Addr->Addr->Addr->Addr->Addr->Addr->Addr->Addr->Addr->Addr->Prop}(h: ∃x y z u v w p q r s t a b,A x y z u v w p q r s t a b)(k: ∀x y z u v w p q r s t a b,A x y z u v w p q r s t a b->R):R:=h.x λ_ _ _ _ _ _ _ h=>h.w (k _ _ _ _ _ _ _)
theorem xt2{R A B C D E F G H I J K L M N O:Prop}(h:A/\B/\C/\D/\E/\F/\G/\H/\I/\J/\K/\L/\M/\N/\O)(k:A->B->C->D->E->F->G->H->I->J->K->L->M->N->O->R):R:=h.s λa b c d e f g i h=>h.u (k a b c d e f g i)
section
variable{K:O0}(e:EV P w K mg base)
include e
theorem m_MOST_CLASHING:mg "MOST_CLASHING"=some (.int (15) e.m_MOST_CLASHING.choose):=e.m_MOST_CLASHING.choose_spec
theorem xt: ∃M k,XTab K mg M (XCS k)/\UN K (k 2) (.ref M::EY) none:=xt1 e.x λM v q I y C N F o L G b j h=>xt2 h λm w u P E J B D A O s c a H n=>(Zy M (λn=>[v,q,I,y,C,N,F,o,L,G,b,j].getD n 0) ⟨m.1,m.2,⟨w,u,P,E,J,B,D,A,O,s,c,a,trivial⟩,n⟩ H)
theorem gi(f)(fd)(F:Fun K "__init__" "Rule.__init__" (inClass (top 7) 0) f fd):FnOk P w K mg base tH 1 f fd ["self","parts"] (Y3 K "parts"):=(by
  refine F.ok Pm (λc H Q E h=>?_) λb A a s H c Q E y h=>?_
  .refine h.m λ_ _ _ _ _ B=>B.elim λG _=>?_;subst G;rfl
  .refine h.m λx C k fs v D=>D.g λI o m u j q=>?_;subst I;exact⟨_,(λb A a s H E=>ZZ (Zu (pv 0) (pv 1) rfl)) b A a s H E,v,rfl,_,rfl,x,C,k,fs,rfl,o,m,u,j,q⟩)
theorem Ie:zBU P w K mg base "Never" "parts":=let ⟨_,X,G⟩:=e.h;e.k_Never.mk X G (gi e)
theorem Ig:zBU P w K mg base "Apart" "parts":=let ⟨_,X,G⟩:=e.h;e.k_Apart.mk X G (gi e)
theorem Xb:zBU P w K mg base "Tie" "parts":=let ⟨_,X,G⟩:=e.h;e.k_Tie.mk X G (gi e)
theorem LS:FlB K Hk "parts":=ô.2 ⟨e.k_Rule.fl,ô.2 ⟨e.k_Never.fl,ô.2 ⟨e.k_Apart.fl,ô.2 ⟨e.k_Tie.fl,λ_ h=>nomatch h⟩⟩⟩⟩
theorem WK:xD P w K mg base "is_whole" 1 1 ["thing"] rK:=by exists 3,1,KY,DT
theorem MU:xD P w K mg base "side_value" 1 2 ["side","looked_at"] eE:=by exists 3,3,DU,fI,fK
theorem ZR:xD P w K mg base "fulfils" 2 2 ["looked_at","test"] FN:=by exists 4,MU,WK;exists 3,4,vU,uB,uC,iT,iU,uD
theorem vG:xD P w K mg base "fulfils_all" 3 2 ["looked_at","tests"] wK:=by exists 4,ZR;exists 3,5,cR,nK,gV,wU
theorem WL:xD P w K mg base "cells_in" 1 2 ["row","columns"] rN:=by exists 3,6,rM,rL,uE,fM
theorem sT(f)(fd)(F:Fun K "bars" "Rule.bars" (inClass (top 7) 1) f fd):FnOk P w K mg base tH 4 f fd ["self","row"] (JM ⟨K,mg,P,w⟩ 2 dX):=by exists 0,HF,BD
theorem gG(f)(fd)(F:Fun K "parts_them" "Rule.parts_them" (inClass (top 7) 2) f fd):FnOk P w K mg base tH 5 f fd ["self","row","other"] (JM ⟨K,mg,P,w⟩ 3 xF):=by exists 0,iV,aW
theorem pP(f)(fd)(F:Fun K "lacks" "Rule.lacks" (inClass (top 7) 3) f fd):FnOk P w K mg base tH 2 f fd ["self","row","rows"] (JM ⟨K,mg,P,w⟩ 3 gW):=by exists 0,DV,uF
theorem MW(f)(fd)(F:Fun K "bars" "Never.bars" (inClass (top 8) 0) f fd):FnOk P w K mg base tH 4 f fd ["self","row"] (JM ⟨K,mg,P,w⟩ 2 DW):=by exists 4,LS,vG;exists 0,eF,fO
theorem sU(f)(fd)(F:Fun K "parts_in_turn" "Apart.parts_in_turn" (inClass (top 9) 0) f fd):FnOk P w K mg base tH 4 f fd ["self","row","other"] (JM ⟨K,mg,P,w⟩ 3 xB):=by exists 4,LS,vG;exists 0,wO,yB,xT
theorem HW:zDF P w K mg base "parts_in_turn" 4 3 kG:=ô.2 ⟨e.k_Apart.mt t2M (sU e),λ_ h=>nomatch h⟩
theorem AT(f)(fd)(F:Fun K "parts_them" "Apart.parts_them" (inClass (top 9) 1) f fd):FnOk P w K mg base tH 5 f fd ["self","row","other"] (JM ⟨K,mg,P,w⟩ 3 fP):=by exists 4,HW;exists 0,xY,wY
theorem SQ(f)(fd)(F:Fun K "lacks" "Tie.lacks" (inClass (top 10) 0) f fd):FnOk P w K mg base tH 2 f fd ["self","row","rows"] (JM ⟨K,mg,P,w⟩ 3 iY):=by exists 4,LS,WL;exists 0,iW,cT,mH,cU,BE,cS,nL
theorem ZS:xD P w K mg base "rule_of" 3 1 ["parts"] FO:=by exists 4,Ie,Ig,Xb;exists 3,11,OP,dY,iZ,HG
theorem vH:xD P w K mg base "rules_of" 4 1 ["book"] fR:=by exists 4,ZS;exists 3,13,rO,eG,fQ,gX
theorem HN:xD P w K mg base "all_rows" 1 1 ["book"] rR:=by exists 3,14,rQ,rP
theorem WM:xD P w K mg base "pairs_of" 1 1 ["rows"] CC:=by exists 3,15,CB,DX,rS,DY,gZ,fU,fS,gY
theorem Ih:xD P w K mg base "key_of" 1 2 ["tables","row"] EA:=by exists 3,16,DZ,CD
theorem SS:zDF P w K mg base "parts_them" 5 3 wL:=ô.2 ⟨e.k_Rule.mt t1M (gG e),ô.2 ⟨e.k_Never.mt (.head _) (gG e),ô.2 ⟨e.k_Apart.mt t3M (AT e),ô.2 ⟨e.k_Tie.mt t1M (gG e),λ_ h=>nomatch h⟩⟩⟩⟩
theorem GO:xD P w K mg base "breaks_of_two" 6 4 ["book","rules","i","j"] nN:=by exists 4,SS,Ih;exists 3,17,jO,bA,bB,bC,bD,lB,xN,xO
theorem Xc:zDF P w K mg base "lacks" 2 3 qH:=ô.2 ⟨e.k_Rule.mt t2M (pP e),ô.2 ⟨e.k_Never.mt t1M (pP e),ô.2 ⟨e.k_Apart.mt t1M (pP e),ô.2 ⟨e.k_Tie.mt t2M (SQ e),λ_ h=>nomatch h⟩⟩⟩⟩
theorem LT:xD P w K mg base "ties_of" 5 1 ["book"] cI:=by exists 4,vH,Xc;exists 3,18,FP,HI,uG,HK,dZ,mK,gK,cW,cV,mI
theorem MX:xD P w K mg base "has_one_of" 1 2 ["kept","some"] rW:=by exists 3,19,rV,bF,uH,bE,cJ
theorem HX:xD P w K mg base "untied_among" 2 2 ["ties","kept"] bH:=by exists 4,MX;exists 3,20,bG,kH,yY,gC
theorem vI:xD P w K mg base "tied_within" 3 2 ["ties","rows"] yU:=by exists 4,HX;exists 3,21,cX,nP,nQ,sZ,nS,bI,wV,nO,bL,bM,wF,bK
theorem X6:zDF P w K mg base "bars" 4 2 vV:=ô.2 ⟨e.k_Rule.mt (.head _) (sT e),ô.2 ⟨e.k_Never.mt t2M (MW e),ô.2 ⟨e.k_Apart.mt (.head _) (sT e),ô.2 ⟨e.k_Tie.mt (.head _) (sT e),λ_ h=>nomatch h⟩⟩⟩⟩
theorem Dt:xD P w K mg base "held" 6 2 ["book","rows"] LB:=by exists 4,vH,X6,vI,LT;exists 3,22,QZ,KZ,LA,EB,rY,CG,CF,rX
theorem ZT:xD P w K mg base "clashes" 7 1 ["book"] FQ:=by exists 4,vH,WM,Dt,HN,GO;exists 3,23,vW,uI,uK,cY,cZ
theorem ZU:xD P w K mg base "foes_of" 8 1 ["book"] qI:=by exists 4,ZT;exists 3,40,FR,uL,uM,uN,lE,mL,mP
theorem LU:xD P w K mg base "check_width" 1 1 ["foes"] mQ:=by exists 4,m_MOST_CLASHING;exists 3,41,dA,nU
theorem ZV:xD P w K mg base "is_full" 1 3 ["rows","known","foes"] FS:=by exists 3,42,vX,uO,mT,dC,dB,jD
theorem GP:xD P w K mg base "peaceful_sets" 2 1 ["foes"] nV:=by exists 4,ZV;exists 3,43,tB,lF,bO,bP,lG,bN,kU,kW,kX,kY,xG,kR,kS,kT,xP,kQ
theorem LV:xD P w K mg base "has_all" 1 2 ["rows","some"] qK:=by exists 3,44,vY,uP
theorem AU:xD P w K mg base "has_all_and_more" 2 2 ["rows","some"] gD:=by exists 4,LV;exists 3,45,xZ,wZ
theorem AM:xD P w K mg base "mended" 9 1 ["book"] bQ:=by exists 4,ZU,LU,Dt,HN,LT,GP,vI,AU;exists 3,46,EC,CH,CI,CK,fW,CL,CM,sF,eH,rZ,fV,eK,sE,sB,sC,eI
theorem EQ:Tr P w K mg base "mended_at" 10 2 ["book","number"] nA:=by refine(xt e).d λxM xl O a=>?_;exact (let ⟨f,N,m,B⟩:=(e.d.df (x:="mended_at") (i:=47) ↑10).ex;⟨f,N,(λf N F=>okX (k:=9) _ F EO λU A v s H E S=>(gT (BR 2 EO.nd (KA (AM e) (S.mono ↑4) rfl (yZ (yR 0) lY))) (gT (Kj (PV (Sb S.units Ka (yR 1) (wW NP Lc rfl (by exists 6) QK (yZ (yR 2) lY)))) (tT (Ga (by
  refine⟨λpins σ Q Y x Z I h=>?_,λpins σ Q Y e C d J b ne c q=>?_⟩
  .obtain⟨e,T,C,d,H',rfl,os,j,un,M,fl,ne,X,c,W,q⟩:=h;have J:=I.call' os un M j (λ_ z=>nomatch z);have o:=I.older rfl ne;have L:=I.older rfl X;refine XG J.ok.frames J.stack rfl fl λh' G n m y=>?_;obtain⟨u,D⟩:=J.moved rfl m o L c W;exact⟨e,G,C,d,H',rfl,J.os,J.bare,u,D,y,o,J.older rfl n,c,J.hok.none_of n,q⟩
  .refine TX J.ok.frames J.stack rfl b λh' G n m y=>?_;obtain⟨u,D⟩:=J.moved rfl m ne ne c c;exact⟨e,G,C,d,Q,rfl,J.os,J.bare,u,D,y,ne,J.older rfl n,c,J.hok.none_of n,q⟩) rfl (O.each.at t2M).1 a O.mc (yZ (Kc [110,111,32,109,101,110,100,101,100,32,98,111,111,107,32,104,97,115,32,116,104,105,115,32,110,117,109,98,101,114]) lY))) XJ) (tT (PY (Xu (yR 2) (yR 1))))))) f N B,m,B.kp,B.binds (λ_ _ _ _ _ _=>Nf (by(repeat intro _);rfl))⟩)
theorem SU:xD P w K mg base "is_mended" 10 2 ["book","rows"] uR:=by exists 4,AM;exists 3,48,lH,mV
theorem LW:xD P w K mg base "mended_with" 10 2 ["book","rows"] mW:=by exists 4,AM,LV;exists 3,49,dF,jP,tD,wG,bR
theorem aS:xD P w K mg base "_law_cell_at" 1 2 [ş,š] zS:=by exists 3,51,fX,kL,qL
theorem lW:xD P w K mg base "_law_mix" 1 2 [Š,š] wA:=by exists 3,52,CN,eM,eO,eP
theorem xH:xD P w K mg base "_law_take" 1 2 [Ş,Ť] zC:=by exists 3,53,HL,mX,mY,BG
theorem bZ:xD P w K mg base "_law_well" 2 2 [Š,š] yP:=by exists 4,lW;exists 3,54,lI,dH,mZ,dI,dL,dG,nW
theorem SV:xD P w K mg base "_law_word" 2 2 [Ş,Ŝ] lL:=by exists 4,xH;exists 3,55,lK,BH,oA,oB,oE,jE,jF,jG,jH,jQ,nY,nZ,jR
theorem SW:xD P w K mg base "_law_pool" 3 1 [Š] uS:=by exists 4,bZ,xH,SV;exists 3,56,lN,oF,oG,oH,BI,dM,aB,aC,wH,wI,jS
theorem LX:xD P w K mg base "_law_tables" 3 1 [Š] oI:=by exists 4,bZ,xH;exists 3,57,dN,aD,aF,aG,aH,jT,bS,bT,bU
theorem WN:xD P w K mg base "_law_row" 3 3 [Š,ŝ,Ŝ] CO:=by exists 4,bZ,xH;exists 3,58,sK,sG,sH,sI,fY,bV
theorem SX:xD P w K mg base "_law_rows" 4 4 [ũ,ŝ,Ŝ,Ŧ] uT:=by exists 4,WN;exists 3,59,lO,oK,oO,oP,jI,aI,jU
theorem SY:xD P w K mg base "_law_side" 2 4 [Ş,ť,ŝ,Ŝ] nB:=by exists 4,xH;exists 3,60,uU,dO,oQ,oR
theorem MY:xD P w K mg base "_law_tests" 3 4 [Ş,ť,ŝ,Ŝ] kM:=by exists 4,xH,SY;exists 3,61,sM,uV,fZ,iA,bW,cK,cL,cN
theorem SZ:xD P w K mg base "_law_rule" 4 3 [Š,ŝ,Ŝ] gN:=by exists 4,bZ,xH,MY;exists 3,62,lP,oS,oU,oV,oW,wM,dP,oX,oY,oZ,iB,tE,jV,tF,jW
theorem TB:xD P w K mg base "_law_book" 5 3 [ş,Ŧ,"_law_room"] uW:=by exists 4,SW,aS,LX,xH,bZ,SZ,lW,SX;exists 3,63,lQ,pA,pB,pC,pD,pE,pF,pG,aK,jX,dQ,aL
theorem HY:xD P w K mg base ŧ 11 2 [Ţ,ţ] iD:=by refine(xt e).d λo q a b=>?_;exact okC (P:=P) (w:=w) (base:=base) (e.d.df (x:=ŧ) (i:=64) ↑10) (λ_ _ _ _ _ _=>Nf (by(repeat intro _);rfl)) λf u F=>okM (k:=10) _ F yS λj A c s H E m=>(gT (BR 2 yS.nd Kb) (gT (Mp (i:=3) a rfl yS.nd (EQ e) (m.mono ↑4) rfl (yZ (yR 0) (yZ (yR 1) lY)) (λv=>(tT (BR 2 yS.nd (yR 3))))) (gT (Kj (Xp (Xo (PV (JG (nH a Il t2M (by exists 6) rfl rfl (yR 2)))) (Kg (PV (JG (J8 a (by exists 6) (by exists 6) rfl rfl (yR 2))))))) (tT (PY Xm)) XJ) (gT (BR 4 yS.nd (JH (yZ (nH a Il ((.tail _ ↑18)) (by exists 6) rfl rfl (yR 2)) (yZ (nH a Il (↑18) (by exists 6) rfl rfl (yR 2)) (yZ (nH a Il ((.tail _ (.tail _ (.tail _ (.tail _ (.tail _ (.tail _ (.head _)))))))) (by exists 6) rfl rfl (yR 2)) lY))))) (gT (BR 4 yS.nd (QH (yR 4) (JH (yZ (nH a Il ((.tail _ (.tail _ (.tail _ (.tail _ (.tail _ (.head _))))))) (by exists 6) rfl rfl (yR 2)) (yZ (nH a Il t3M (by exists 6) rfl rfl (yR 2)) (yZ (nH a Il ((.tail _ (.tail _ (.tail _ (.tail _ (.head _)))))) (by exists 6) rfl rfl (yR 2)) lY)))))) (gT (BR 4 yS.nd (QH (yR 4) (JH (yZ (nH a Il t1M (by exists 6) rfl rfl (yR 2)) (yZ (nH a Il ((.tail _ (.tail _ (.tail _ ↑18)))) (by exists 6) rfl rfl (yR 2)) (yZ (nH a Il (.head _) (by exists 6) rfl rfl (yR 2)) lY)))))) (tT (PY (Kf (wW DP (Mv rfl) rfl (by exists 6) Lh (yZ (QH (yR 4) (JH (yZ (nH a Il ((.tail _ (.tail _ ↑18))) (by exists 6) rfl rfl (yR 2)) (yZ (nH a Il ((.tail _ (.tail _ (.tail _ (.tail _ (.tail _ (.tail _ (.tail _ (.head _))))))))) (by exists 6) rfl rfl (yR 2)) lY)))) lY)))))))))))
theorem TC:xD P w K mg base "_law_sets" 2 3 [ş,Ţ,ū] uX:=by exists 4,lW,aS;exists 3,65,lR,pH,pI,pK,BK,dR,aO,aP,jZ,aQ,aR,jY,aM
theorem X7(f)(fd)(F:Fun K "law" "law" (top 66) f fd):FnOk P w K mg base tH 12 f fd [ş] (JM ⟨K,mg,P,w⟩ 1 VL):=by exists 4,TB,AM,EQ,lW,aS,HY,TC,SU,LW;exists 0,Bz,RA,RB,RD,RE,RF,RG,RH,RI,IK,ED,IL,FV,FW,FX,GA,GB,GC,GD,AA,FZ,vZ,FY
end
def all_mk{l:PySem.W.OpenLaw}{K:O0}(h:Heap)(e: ∀base,EV l.prog w K mg base)(a:mg "law"=some (.ref fa)): ∃j:FuncData,(∀ s  v ,BindsTo s j ⟨[v],[]⟩ [(ş,v)])/\ ∀base:Heap,K.In base->base.Ns mainGlobals mg->FnOk l.prog w K mg base tH 12 fa j [ş] (NT K VL):=
 K9 ((e h).d.df (x:="law") (i:=66) ↑10) a (λ_ _ _ _ _ _ s v=>.of_eq rfl) λbase f j F=>X7 (e base) f j F
def walk{l:PySem.W.OpenLaw}{K:Params->PySem.W.Frag}(y:l.most=some 63)(b:d.params.defaults=[])
  (hY: ∀ w  h ,YP w h->(K w.params).In h)
  (F: ∀ w  mg  j  h ,(K w.params).In h->h.Ns mainGlobals mg->mg d.name=some (.ref j)->
   ∃m:FuncData,(∀ s  u ,BindsTo s m ⟨[u],[]⟩ [(ş,u)])/\ ∀base:Heap,(K w.params).In base->base.Ns mainGlobals mg->FnOk l.prog w (K w.params) mg base tH 12 j m [ş] (NT (K w.params) VL))
  (hN:(BM l.prog).all (λe=>((recsOf q).find? λd=>d.name==e.1).isSome)=true) (hno:BM l.prog=[]\/ ∀w:World,PySem.W.noTabs (K w.params)=true):
  PySem.W.WalkO q loose XP YP l.row.toRowW d [] (λf vs=>PySem.call f vs):=
 L2.walk_of (n:=63) (k:=12) (x:=ş) (CX:=λ_=>tH) (sp:=λw=>NT (K w.params) VL) y ↑4 b ⟨rfl,by decide,by decide,rfl⟩ hY F
  (λw H a ns A o c=>(by have h:=(Pl ns A);obtain⟨S,h⟩:=h;refine ZB _ (zV (Aj (F6 o c) (pX ns)) yA) rfl (λg _=>?_);rw[h];exact λv α' H' x w d=>BA d.1)) (λ_ _ _ _ _ z=>z) hN hno
end My
end M
end L2
namespace PySem.W.Fast
def tw5689566990461258719:=0
theorem te5689566990461258719:tw5689566990461258719=0:=rfl
def tw10370227281483747127:=0
theorem te10370227281483747127:tw10370227281483747127=0:=rfl
def tw2422668061691809380:=0
theorem te2422668061691809380:tw2422668061691809380=0:=rfl
def tw8651081822293185678:=0
theorem te8651081822293185678:tw8651081822293185678=0:=rfl
def tw8708621171806766234:=0
theorem te8708621171806766234:tw8708621171806766234=0:=rfl
def tw18285665643528513917:=0
theorem te18285665643528513917:tw18285665643528513917=0:=rfl
def tw12198124149910092409:=0
theorem te12198124149910092409:tw12198124149910092409=0:=rfl
def tw9746448740164184229:=0
theorem te9746448740164184229:tw9746448740164184229=0:=rfl
def tw11306855417450268233:=0
theorem te11306855417450268233:tw11306855417450268233=0:=rfl
def tw14713957983280683615:=0
theorem te14713957983280683615:tw14713957983280683615=0:=rfl
def tw12900376442099331249:=0
theorem te12900376442099331249:tw12900376442099331249=0:=rfl
def tw8512947689248092585:=0
theorem te8512947689248092585:tw8512947689248092585=0:=rfl
def tw5480976544696182411:=0
theorem te5480976544696182411:tw5480976544696182411=0:=rfl
def tw17417160903494041568:=0
theorem te17417160903494041568:tw17417160903494041568=0:=rfl
def tw8720584889030789888:=0
theorem te8720584889030789888:tw8720584889030789888=0:=rfl
def tw17919473161715359448:=0
theorem te17919473161715359448:tw17919473161715359448=0:=rfl
def tw5217935815826303767:=0
theorem te5217935815826303767:tw5217935815826303767=0:=rfl
def tw10929061656271879299:=0
theorem te10929061656271879299:tw10929061656271879299=0:=rfl
def tw1068143051228140358:=0
theorem te1068143051228140358:tw1068143051228140358=0:=rfl
def tw6051512518208821093:=0
theorem te6051512518208821093:tw6051512518208821093=0:=rfl
def tw11797295476511701469:=0
theorem te11797295476511701469:tw11797295476511701469=0:=rfl
def tw12619498018855838107:=0
theorem te12619498018855838107:tw12619498018855838107=0:=rfl
def tw14816284437737980086:=0
theorem te14816284437737980086:tw14816284437737980086=0:=rfl
def tw15109433131483401589:=0
theorem te15109433131483401589:tw15109433131483401589=0:=rfl
def tw10253552213884034719:=0
theorem te10253552213884034719:tw10253552213884034719=0:=rfl
def tw2051643239108032835:=0
theorem te2051643239108032835:tw2051643239108032835=0:=rfl
def tw2934832518108939619:=0
theorem te2934832518108939619:tw2934832518108939619=0:=rfl
def tw186260822577568690:=0
theorem te186260822577568690:tw186260822577568690=0:=rfl
def tw6505049048855850774:=0
theorem te6505049048855850774:tw6505049048855850774=0:=rfl
def tw9908739136805844786:=0
theorem te9908739136805844786:tw9908739136805844786=0:=rfl
def tw14559510467473476246:=0
theorem te14559510467473476246:tw14559510467473476246=0:=rfl
def tw17910538628915327348:=0
theorem te17910538628915327348:tw17910538628915327348=0:=rfl
def tw1455236516387233485:=0
theorem te1455236516387233485:tw1455236516387233485=0:=rfl
def tw7495146256125400321:=0
theorem te7495146256125400321:tw7495146256125400321=0:=rfl
def tw13728284009837801889:=0
theorem te13728284009837801889:tw13728284009837801889=0:=rfl
def tw4480650501767670743:=0
theorem te4480650501767670743:tw4480650501767670743=0:=rfl
def tw8355999419729280593:=0
theorem te8355999419729280593:tw8355999419729280593=0:=rfl
def tw2613077012015134236:=0
theorem te2613077012015134236:tw2613077012015134236=0:=rfl
def tw1785091935003778648:=0
theorem te1785091935003778648:tw1785091935003778648=0:=rfl
def tw9747377991105018448:=0
theorem te9747377991105018448:tw9747377991105018448=0:=rfl
def tw14143011849275291090:=0
theorem te14143011849275291090:tw14143011849275291090=0:=rfl
def tw6971385247674146009:=0
theorem te6971385247674146009:tw6971385247674146009=0:=rfl
def tw2129659311946704370:=0
theorem te2129659311946704370:tw2129659311946704370=0:=rfl
end PySem.W.Fast
open PySem PySem.W PyProof.Rows
set_option maxRecDepth 100000 in
set_option maxHeartbeats 0 in
theorem PySem.Challenge.cw_mendsure_k21_the_one_of_a_number_holds : PySem.Challenge.rw_mendsure_k21_the_one_of_a_number.Holds := by
  w_on; o_law; k_head; (case hw => w_witness2)
  k_fill
  refine L2.M.My.walk (l := PySem.Challenge.rw_mendsure_k21_the_one_of_a_number) rfl rfl (fun w h Y => PySem.W.kIn_of Y) ?F ?hN ?hno
  case hN => kernel_rfl
  case hno => exact .inl rfl
  case F =>
    intro w mg b h KX G a
    refine' L2.M.My.all_mk h (fun _ => ?_) a
    constructor
    all_goals repeat' first | (exact trivial) | (exact ⟨_, KX, G⟩) | (exact PySem.W.mg_none_of KX G (by k_is)) | (exact PySem.W.mg_of KX G (by k_is)) | (exact L2.M.def_mk (by k_is) (by k_is) (by k_is) (by k_is) KX G) | (exact L2.fun_mk (by k_is) (by k_is) (by k_is)) | (exact L2.M.xcl_mk (by k_is) (by k_is) rfl (by k_is) (by k_is) (by k_is) (by k_is) (by k_is) (by k_is) (by k_is) rfl) | (exact ⟨by k_is, L2.M.nm_of (by k_is) (by rfl), by k_is, by k_is, by k_is, by k_is⟩) | (exact ⟨by k_is, by k_is, by k_is, by k_is⟩) | (exact ⟨by k_is, by k_is, by k_is⟩) | (show PySem.W.findIn _ _ _ = _; k_is) | (show PySem.W.nsIn _ _ _ = _; k_is) | (refine And.intro ?_ ?_) | (apply Exists.intro) | (k_is) | (decide)
