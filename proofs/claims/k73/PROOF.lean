import PyProof.Rows.All
import Wide.All
import OpenK.AllK
import Wide.FinOn
import Lean
import PyProof.EqAt
import PyProof.EqKinds
import PyProof.TupleCall
import PySem.Challenge.RW_mendsure_k73_formulas_or_rings
set_option Elab.async false
set_option linter.all false
set_option hygiene false
set_option compiler.extract_closed false
local macro_rules|`(↑6)=>`(kJ (.int 1))
local macro_rules|`(↑7)=>`(model prog w)
local macro_rules|`(↑8)=>`(xs.length)
local macro_rules|`(↑9)=>`((e::es).length+([]:List Keyword).length+(if([]:List Keyword).isEmpty then 0 else 1)<30)
local macro_rules|`(↑10)=>`(as.length)
local macro_rules|`(↑11)=>`(excClassObj nm q C N bs bm hdct sn sub ab col dd k0 k1 k2 k3 k5 newId)
local macro_rules|`(↑12)=>`(ds.length)
local macro_rules|`(↑13)=>`(dJ yC (vJ 0) (kJ (.int 1)))
local macro_rules|`(↑14)=>`(.tail _ (.tail _ (.tail _ (.tail _ (.tail _ (.tail _ (.head _)))))))
local macro_rules|`(↑15)=>`(kJ (.int 0))
local macro_rules|`(↑16)=>`(B.length)
local macro_rules|`(↑17)=>`(.tup (ts.map tbl))
local macro_rules|`(↑18)=>`( ∀b∈ch,(b∈X.ex\/X.s₀.heap.objs.size<=b)/\b≠X.env.locals/\(∀x c,X.env.cells.lookup x=some c->c≠b)/\ ∀p∈X.pn++pins,p.1≠b)
local macro_rules|`(↑19)=>`(kJ (.int 2))
local macro_rules|`(↑20)=>`(Keyed->Keyed->Bool)
local macro_rules|`(↑21)=>`(by decide+kernel)
local macro_rules|`(↑22)=>`(ns.map MV.int)
local macro_rules|`(↑23)=>`(X.env.scope)
local macro_rules|`(↑24)=>`(MV->Rho->Sto->R Rho)
local macro_rules|`(↑25)=>`(List MV->Sto->R Er)
local macro_rules|`(↑26)=>`((AJ (kJ (.bl false))))
local macro_rules|`(↑27)=>`(.ListComp elt [⟨tg,iter,ifs,0⟩] sc pos)
local macro_rules|`(↑28)=>`(VV c ↑0 none none none none none none none none)
local macro_rules|`(↑29)=>`(.type "ValueError")
local macro_rules|`(↑30)=>`(dJ JK (kJ (.int 10)) (kJ (.int 30)))
local macro_rules|`(↑31)=>`(Wd X.g α S H)
local macro_rules|`(↑32)=>`(X.A.units+64<cLine)
local macro_rules|`(↑33)=>`(some (qM hs as))
local macro_rules|`(↑34)=>`(show(0:Int)<2 by decide)
local macro_rules|`(↑35)=>`(x==("__debug__"))
local macro_rules|`(↑36)=>`(SB a₀ kd pd f lo st)
local macro_rules|`(↑37)=>`(typeOf (.builtin id)=pure (.type "method_descriptor"))
local macro_rules|`(↑38)=>`(.Call (.Name x p) (e::es) [] pos)
local macro_rules|`(↑39)=>`(s1.heap.objs.size)
local macro_rules|`(↑40)=>`(a.heap.objs.size)
local macro_rules|`(↑41)=>`(.lst [.int x,.int y])
local macro_rules|`(↑42)=>`(!(Builtin.Str.occurrences j i 0 j.length 1).isEmpty)
local macro_rules|`(↑43)=>`(Rho->Sto->R (List Er))
local macro_rules|`(↑44)=>`((par==("__classdict__"))=false)
local macro_rules|`(↑45)=>`(yJ (vJ 1) wJ)
local macro_rules|`(↑46)=>`(λxs H Q=>((∃i,xs=[.int i]/\Q (.int i) H)\/ ∃k,xs=[.bl k]/\Q (.int (if k then 1 else 0)) H)\/ ∃x n,xs=[.str x]/\PySem.intText? x=some n/\x.length<=640/\Q (.int n) H)
local macro_rules|`(↑47)=>`(vs.length)
local macro_rules|`(↑48)=>`(Cmp M A E s kd D lt)
local macro_rules|`(↑49)=>`(∀b o,s.heap.get? b=some o->h'.get? b=some o)
local macro_rules|`(↑50)=>`(zV b (a.mono ↑4) rfl (zA (zB 0) (zA zS zF)))
local macro_rules|`(↑51)=>`(h.get? C=some (excClassObj nm q C N bs bm true sn sub ab col dd k0 k1 k2 k3 k5 newId))
local macro_rules|`(↑0)=>`(S.length)
local macro_rules|`(↑1)=>`(Inv X pins σ H s)
local macro_rules|`(↑2)=>`(.Call (.Attribute (.Name "MendError" p1) "__init__" p2) [.Name "self" p3,.JoinedStr (v1::v2::vs) p4] [] p5)
local macro_rules|`(↑3)=>`(s.heap.objs.size)
local macro_rules|`(↑4)=>`(by decide)
local macro_rules|`(↑5)=>`(model X.prog X.w)
set_option maxRecDepth 100000
noncomputable section
set_option bootstrap.genMatcherCode false
open List (all_map drop_zero ext_getElem? filterMap_cons filterMap_cons_some find?_cons flatten_cons forIn_cons getD_eq_getElem?_getD getElem?_append_left getElem?_append_right getElem?_drop getElem?_eq_none getElem?_map getElem?_of_mem getElem?_set_ne getElem?_set_self getElem_inj getElem_mem getElem_of_mem length_filterMap_le length_range length_zip lookup_cons map_drop map_take mem_append_left mem_filterMap mem_of_getElem? mem_of_mem_drop mem_of_mem_take mem_range mem_reverse nodup_append nodup_cons nodup_nil of_mem_zip pairwise_cons pairwise_map range'_succ range_eq_range' replicate_succ reverse_cons set_cons_succ set_cons_zero take_of_length_le zipIdx_cons zipIdx_nil zip_cons_cons zip_nil_left)
open Nat (add_assoc le_of_lt le_succ lt_irrefl lt_trans min_eq_left sub_self succ_le_succ zero_le)
abbrev à:=@Nat.le_refl
abbrev á:=@List.mem_append
abbrev â:=@List.getElem?_append_left
abbrev ã:=@PySem.Heap.lt_size
abbrev ä:=@PySem.Heap.get?_push_size
abbrev å:=@Option.some.inj
abbrev æ:=@List.map_cons
abbrev ç:=@List.length_nil
abbrev è:=@List.getElem?_append_right
abbrev é:=@Nat.lt_of_lt_of_le
abbrev ê:=@Nat.ne_of_lt
abbrev ë:=@List.getElem?_map
abbrev ì:=@PySem.wpAny_loadPart_at
abbrev í:=@Nat.le_trans
abbrev î:=@List.mem_of_getElem?
abbrev ï:=@List.map_append
abbrev ð:=@List.mem_append_right
abbrev ñ:=@List.length_range
abbrev ò:=@PySem.wpAny_mono
abbrev ó:=@PySem.Heap.get?_update_other
abbrev ô:=@PySem.sizeLine_eq
abbrev õ:=@List.mem_append_left
abbrev ö:=@PySem.wpAny_holding
abbrev ø:=@List.mem_range
abbrev ù:=@PySem.wpAny_field
abbrev ú:=@Classical.choose_spec
abbrev û:=@Array.getElem?_toList
abbrev ü:=@Array.length_toList
abbrev ý:=@PySem.wpAny_truthy_bool
abbrev þ:=@List.mem_of_mem_take
abbrev ÿ:=@List.length_drop
abbrev Ā:=@List.mem_filter
abbrev ā:=@Option.isSome_iff_exists
abbrev Ă:=@PySem.wpAny_call_entry
abbrev ă:=@List.all_eq_true
abbrev Ą:=@of_decide_eq_true
abbrev ą:=@List.length_set
abbrev Ć:=@PySem.Heap.get?_update_self
abbrev ć:=@List.getD_eq_getElem?_getD
abbrev Ĉ:=@List.getElem?_set_ne
abbrev ĉ:=@List.contains_cons
abbrev Ċ:=@PySem.wpAny_callSpecial?_slot
abbrev ċ:=@Nat.ne_of_gt
abbrev Č:=@List.length_replicate
abbrev č:=@List.getElem?_set_self
abbrev Ď:=@PyProof.Rows.callWith_type1
abbrev ď:=@List.map_map
abbrev Đ:=@decide_true
abbrev đ:=@PySem.wpAny_standAt
abbrev Ē:=@PySem.Heap.size_push
abbrev ē:=@PySem.Obj.data_mapFields
abbrev Ĕ:=@PyProof.Rows.slot_tuple_getitem
abbrev ĕ:=@PySem.wpAny_execs_nil
abbrev Ė:=@PySem.codeAny_mono
abbrev ė:=@PySem.codeAny_call_builtin
abbrev Ę:=@PySem.wpAny_pyIter_list
abbrev ę:=@PySem.wpAny_newObj_type
abbrev Ě:=@beq_eq_false_iff_ne
abbrev ě:=@List.length_reverse
abbrev Ĝ:=@List.length_filterMap_le
abbrev ĝ:=@List.filterMap_cons
abbrev Ğ:=@PySem.wpAny_execs_cons
abbrev ğ:=@List.lookup_cons
abbrev Ġ:=@Nat.succ_le_succ
abbrev ġ:=@decide_false
abbrev Ģ:=@PySem.wpAny_passesOwn
abbrev ģ:=@PySem.Obj.isFreed_of_fields
abbrev Ĥ:=@PySem.codeAny_builtin
abbrev ĥ:=@List.length_filter_le
abbrev Ħ:=@Array.getElem?_eq_some_iff
abbrev ħ:=@PySem.F.slot_tuple_iterator_next
abbrev Ĩ:=@Int.toNat_natCast
abbrev ĩ:=@PySem.PassesOwn.leaving
abbrev Ī:=@List.getElem?_eq_none_iff
abbrev ī:=@Nat.lt_irrefl
abbrev Ĭ:=@List.getElem_mem
abbrev ĭ:=@List.getElem?_take_of_lt
abbrev Į:=@Nat.zero_add
abbrev į:=@List.nodup_append
abbrev İ:=@List.filterMap_cons_none
abbrev ı:=@List.any_eq_true
abbrev Ĳ:=@List.filterMap_cons_some
abbrev ĳ:=@List.length_pos_iff
abbrev Ĵ:=@PySem.wpAny_getItem_str_slice
abbrev ĵ:=@List.zip_cons_cons
abbrev Ķ:=@List.pairwise_cons
abbrev ķ:=@PySem.wpAny_Call_Name_kw
abbrev ĸ:=@List.nil_append
abbrev Ĺ:=@PySem.wpAny_specialOf
abbrev ĺ:=@PySem.wpAny_setField_rec
abbrev Ļ:=@List.mem_of_mem_drop
abbrev ļ:=@PySem.PassesOwn.never
abbrev Ľ:=@List.nodup_cons
abbrev ľ:=@List.take_of_length_le
abbrev Ŀ:=@List.replicate_succ
abbrev ŀ:=PySem.Shared
abbrev Ł:=PySem.Value
abbrev ł:=PySem.Program
def q0{n:Nat}:n<=n:=Nat.le_refl n
def xF0:¬(false=true):=Bool.false_ne_true
def t1M{A:Type}{b a:A}{l:List A}:a∈b::a::l:=.tail _ (.head _)
def t2M{A:Type}{c b a:A}{l:List A}:a∈c::b::a::l:=(.tail _ (.tail _ (.head _)))
def t3M{A:Type}{d b c a:A}{l:List A}:a∈d::b::c::a::l:=(.tail _ (.tail _ (.tail _ (.head _))))
def t4M{A:Type}{e d c b a:A}{l:List A}:a∈e::d::c::b::a::l:=(.tail _ (.tail _ (.tail _ (.tail _ (.head _)))))
def t5M{A:Type}{c b e d h a:A}{l:List A}:a∈c::b::e::d::h::a::l:=(.tail _ (.tail _ (.tail _ (.tail _ (.tail _ (.head _))))))
def t6M{A:Type}{c h e d i b a:A}{l:List A}:a∈c::h::e::d::i::b::a::l:=↑14
def t7M{A:Type}{d i h e j b c a:A}{l:List A}:a∈d::i::h::e::j::b::c::a::l:=(.tail _ ↑14)
def t8M{A:Type}{e j i h k b c d a:A}{l:List A}:a∈e::j::i::h::k::b::c::d::a::l:=(.tail _ (.tail _ ↑14))
def t9M{A:Type}{i m k j b c d e h a:A}{l:List A}:a∈i::m::k::j::b::c::d::e::h::a::l:=(.tail _ (.tail _ (.tail _ ↑14)))
def t10M{A:Type}{i m k j b c d e h n a:A}{l:List A}:a∈i::m::k::j::b::c::d::e::h::n::a::l:=(.tail _ (.tail _ (.tail _ (.tail _ ↑14))))
def t11M{A:Type}{j n m k c d e h i o b a:A}{l:List A}:a∈j::n::m::k::c::d::e::h::i::o::b::a::l:=(.tail _ (.tail _ (.tail _ (.tail _ (.tail _ ↑14)))))
abbrev dF0:=@decide_eq_false
abbrev dT0:=@decide_eq_true
abbrev iP:=@if_pos
abbrev iN0:=@if_neg
abbrev mC:=@List.mem_cons
abbrev lC0:=@List.length_cons
abbrev mO:=@List.mem_cons_of_mem
abbrev lM0:=@List.length_map
abbrev nM:=@List.not_mem_nil
abbrev mS:=@List.mem_singleton
abbrev mF0:=@List.mem_cons_self
abbrev fT:=@Bool.false_eq_true
abbrev sA:=@List.size_toArray
abbrev lS:=@List.length_singleton
abbrev eL:=@Int.emod_lt_of_pos
abbrev eN0:=@Int.emod_nonneg
abbrev aE:=@Bool.and_eq_true
abbrev iF:=@if_false
abbrev aN:=@List.append_nil
abbrev lA:=@List.length_append
abbrev gS:=@List.getElem?_eq_some_iff
abbrev gE:=@List.getElem?_eq_getElem
abbrev wB:=@PySem.wpAny_bind
abbrev wP:=@PySem.wpAny_pure
abbrev hP0:=@PySem.Heap.get?_push_of_some
abbrev mM0:=@List.mem_map
abbrev lT:=@List.length_take
abbrev aA:=@List.append_assoc
abbrev VP:=PySem.Value->PySem.Shared->Prop
abbrev P0:=PySem.W.Frag
abbrev O0:=List PySem.Expr
abbrev N0:=Option Int
abbrev M0:=List Bool
abbrev L1:=List (PySem.Addr×PySem.Obj)
abbrev K0:=PySem.Str->Option PySem.Value
abbrev C0:=List PySem.Str
abbrev B9:=List PySem.Addr
abbrev B0:=Array PySem.Value
abbrev A0:=List PySem.Value
abbrev Za:=List Int
abbrev Tk:=List (Int×Int)
abbrev Db:=List Nat
abbrev Ch:=List (List Nat)
set_option bootstrap.genMatcherCode true in
local macro_rules
 |`(#[0])=>`(by lia)
abbrev Ń:="_law_tables_here"
abbrev ń:="_law_many"
abbrev Ņ:="_law_cell"
abbrev ņ:="_law_question_here"
abbrev Ň:="_law_script"
abbrev ň:="_law_values_here"
abbrev ŉ:="_law_k"
abbrev Ŋ:="_law_words_here"
abbrev ŋ:="_law_rest"
abbrev Ō:="_law_names"
abbrev ō:="_law_atoms"
abbrev Ŏ:="_law_words_by_digits"
abbrev ŏ:="_law_some"
abbrev Ő:="_law_found"
abbrev ő:="_law_e"
abbrev Œ:="_law_drawn"
abbrev œ:="_law_kinds"
abbrev Ŕ:="_law_is_row_part"
abbrev ŕ:="_law_name_in"
abbrev Ŗ:="_law_is_term"
abbrev ŗ:="_law_is_formula"
abbrev Ř:="_law_standing"
abbrev ř:="_law_question"
abbrev Ś:="_law_formula"
abbrev ś:="_law_cell_at"
abbrev Ŝ:="_law_doubled"
abbrev ŝ:="_law_is_ring"
abbrev Ş:="_law_head"
abbrev ş:="_law_term"
abbrev Š:="_law_number"
abbrev š:="_law_tables"
abbrev Ţ:="_law_values"
abbrev ţ:="_law_pairs"
abbrev Ť:="_law_cells"
abbrev ť:="_law_words"
abbrev Ŧ:="_law_place"
abbrev ŧ:="_law_told"
abbrev Ũ:="_law_numbers"
section
variable{α β γ δ ε ζ η θ ι κ μ ν ξ π ρ:Type}{R:Prop}
theorem And.e{A B C:Prop}(h:A/\B/\C)(k:A->B->C->R):R:=h.elim λa h=>h.elim (k a)
theorem And.k{A B C D:Prop}(h:A/\B/\C/\D)(k:A->B->C->D->R):R:=h.elim λa h=>h.e (k a)
theorem And.h{A B C D E:Prop}(h:A/\B/\C/\D/\E)(k:A->B->C->D->E->R):R:=h.elim λa h=>h.k (k a)
theorem And.f{A B C D E F:Prop}(h:A/\B/\C/\D/\E/\F)(k:A->B->C->D->E->F->R):R:=h.elim λa h=>h.h (k a)
theorem And.t{A B C D E F G:Prop}(h:A/\B/\C/\D/\E/\F/\G)(k:A->B->C->D->E->F->G->R):R:=h.elim λa h=>h.f (k a)
theorem And.w{A B C D E F G H:Prop}(h:A/\B/\C/\D/\E/\F/\G/\H)(k:A->B->C->D->E->F->G->H->R):R:=h.elim λa h=>h.t (k a)
theorem And.v{A B C D E F G H I:Prop}(h:A/\B/\C/\D/\E/\F/\G/\H/\I)(k:A->B->C->D->E->F->G->H->I->R):R:=h.elim λa h=>h.w (k a)
theorem Exists.j{A:α->β->Prop}(h: ∃x y,A x y)(k: ∀x y,A x y->R):R:=h.elim λ_ h=>h.elim (k _)
theorem Exists.l{A:α->β->γ->Prop}(h: ∃x y z,A x y z)(k: ∀x y z,A x y z->R):R:=h.elim λ_ h=>h.j (k _)
theorem Exists.i{A:α->β->γ->δ->Prop}(h: ∃x y z u,A x y z u)(k: ∀x y z u,A x y z u->R):R:=h.elim λ_ h=>h.l (k _)
theorem Exists.q{A:α->β->γ->δ->ε->Prop}(h: ∃x y z u v,A x y z u v)(k: ∀x y z u v,A x y z u v->R):R:=h.elim λ_ h=>h.i (k _)
theorem Exists.u{A:α->β->γ->δ->ε->ζ->Prop}(h: ∃x y z u v w,A x y z u v w)(k: ∀x y z u v w,A x y z u v w->R):R:=h.elim λ_ h=>h.q (k _)
theorem Exists.r{A:α->β->γ->δ->ε->ζ->η->θ->ι->Prop}(h: ∃x y z u v w p q r,A x y z u v w p q r)(k: ∀x y z u v w p q r,A x y z u v w p q r->R):R:=h.elim λ_ h=>h.elim λ_ h=>h.elim λ_ h=>h.u (k _ _ _)
theorem Exists.y{A:α->β->γ->δ->ε->ζ->η->θ->ι->κ->μ->ν->ξ->π->Prop}(h: ∃x y z u v w p q r s t a b c,A x y z u v w p q r s t a b c)(k: ∀x y z u v w p q r s t a b c,A x y z u v w p q r s t a b c->R):R:=h.elim λ_ h=>h.elim λ_ h=>h.elim λ_ h=>h.elim λ_ h=>h.elim λ_ h=>h.r (k _ _ _ _ _)
theorem Exists.x{A:α->β->γ->δ->ε->ζ->η->θ->ι->κ->μ->ν->ξ->π->ρ->Prop}(h: ∃x y z u v w p q r s t a b c d,A x y z u v w p q r s t a b c d)(k: ∀x y z u v w p q r s t a b c d,A x y z u v w p q r s t a b c d->R):R:=h.elim λ_ h=>h.y (k _)
theorem Exists.a{A B:α->Prop}(h: ∃x,A x/\B x)(k: ∀x,A x->B x->R):R:=h.elim λ_ h=>h.elim (k _)
theorem Exists.c{A B C:α->Prop}(h: ∃x,A x/\B x/\C x)(k: ∀x,A x->B x->C x->R):R:=h.elim λ_ h=>h.e (k _)
theorem Exists.d{A B:α->β->Prop}(h: ∃x y,A x y/\B x y)(k: ∀x y,A x y->B x y->R):R:=h.j λ_ _ h=>h.elim (k _ _)
theorem Exists.b{A B C:α->β->Prop}(h: ∃x y,A x y/\B x y/\C x y)(k: ∀x y,A x y->B x y->C x y->R):R:=h.j λ_ _ h=>h.e (k _ _)
theorem Exists.g{A B C D:α->β->Prop}(h: ∃x y,A x y/\B x y/\C x y/\D x y)(k: ∀x y,A x y->B x y->C x y->D x y->R):R:=h.j λ_ _ h=>h.k (k _ _)
theorem Exists.m{A B:α->β->γ->Prop}(h: ∃x y z,A x y z/\B x y z)(k: ∀x y z,A x y z->B x y z->R):R:=h.l λ_ _ _ h=>h.elim (k _ _ _)
theorem Exists.n{A B C D:α->β->γ->Prop}(h: ∃x y z,A x y z/\B x y z/\C x y z/\D x y z)(k: ∀x y z,A x y z->B x y z->C x y z->D x y z->R):R:=h.l λ_ _ _ h=>h.k (k _ _ _)
theorem Exists.p{A B C D E:α->β->γ->Prop}(h: ∃x y z,A x y z/\B x y z/\C x y z/\D x y z/\E x y z)(k: ∀x y z,A x y z->B x y z->C x y z->D x y z->E x y z->R):R:=h.l λ_ _ _ h=>h.h (k _ _ _)
theorem Exists.o{A B C D E:α->β->γ->δ->Prop}(h: ∃x y z u,A x y z u/\B x y z u/\C x y z u/\D x y z u/\E x y z u)(k: ∀x y z u,A x y z u->B x y z u->C x y z u->D x y z u->E x y z u->R):R:=h.i λ_ _ _ _ h=>h.h (k _ _ _ _)
theorem Exists.s{A B C D:α->β->γ->δ->ε->ζ->η->θ->ι->κ->μ->ν->ξ->π->Prop}(h: ∃x y z u v w p q r s t a b c,A x y z u v w p q r s t a b c/\B x y z u v w p q r s t a b c/\C x y z u v w p q r s t a b c/\D x y z u v w p q r s t a b c)(k: ∀x y z u v w p q r s t a b c,A x y z u v w p q r s t a b c->B x y z u v w p q r s t a b c->C x y z u v w p q r s t a b c->D x y z u v w p q r s t a b c->R):R:=h.y λ_ _ _ _ _ _ _ _ _ _ _ _ _ _ h=>h.k (k _ _ _ _ _ _ _ _ _ _ _ _ _ _)
theorem Z8{A B:α->Prop}(x)(h0:A x)(h1:B x): ∃x,A x/\B x:=⟨_,h0,h1⟩
theorem Z1{A B C:α->Prop}(x)(h0:A x)(h1:B x)(h2:C x): ∃x,A x/\B x/\C x:=⟨_,h0,h1,h2⟩
theorem Y9{A:α->β->Prop}(x y)(h:A x y): ∃x y,A x y:=⟨_,_,h⟩
theorem Z0{A B:α->β->Prop}(x y)(h0:A x y)(h1:B x y): ∃x y,A x y/\B x y:=⟨_,_,h0,h1⟩
theorem Z3{A B C:α->β->Prop}(x y)(h0:A x y)(h1:B x y)(h2:C x y): ∃x y,A x y/\B x y/\C x y:=⟨_,_,h0,h1,h2⟩
theorem ZB{A B C D:α->β->Prop}(x y)(h0:A x y)(h1:B x y)(h2:C x y)(h3:D x y): ∃x y,A x y/\B x y/\C x y/\D x y:=⟨_,_,h0,h1,h2,h3⟩
theorem YD{A B C D E:α->β->Prop}(x y)(h0:A x y)(h1:B x y)(h2:C x y)(h3:D x y)(h4:E x y): ∃x y,A x y/\B x y/\C x y/\D x y/\E x y:=⟨_,_,h0,h1,h2,h3,h4⟩
theorem Yq{A:α->β->γ->Prop}(x y z)(h:A x y z): ∃x y z,A x y z:=⟨_,_,_,h⟩
theorem Zf{A B:α->β->γ->Prop}(x y z)(h0:A x y z)(h1:B x y z): ∃x y z,A x y z/\B x y z:=⟨_,_,_,h0,h1⟩
theorem Y3{A B C:α->β->γ->Prop}(x y z)(h0:A x y z)(h1:B x y z)(h2:C x y z): ∃x y z,A x y z/\B x y z/\C x y z:=⟨_,_,_,h0,h1,h2⟩
theorem ZY{A B C D:α->β->γ->Prop}(x y z)(h0:A x y z)(h1:B x y z)(h2:C x y z)(h3:D x y z): ∃x y z,A x y z/\B x y z/\C x y z/\D x y z:=⟨_,_,_,h0,h1,h2,h3⟩
theorem Y6{A B C D E:α->β->γ->Prop}(x y z)(h0:A x y z)(h1:B x y z)(h2:C x y z)(h3:D x y z)(h4:E x y z): ∃x y z,A x y z/\B x y z/\C x y z/\D x y z/\E x y z:=⟨_,_,_,h0,h1,h2,h3,h4⟩
theorem Y4{A:α->β->γ->δ->Prop}(x y z u)(h:A x y z u): ∃x y z u,A x y z u:=⟨_,_,_,_,h⟩
theorem Y2{A:α->β->γ->δ->ε->Prop}(x y z u v)(h:A x y z u v): ∃x y z u v,A x y z u v:=⟨_,_,_,_,_,h⟩
theorem Yt{A B C D E F:α->β->γ->δ->ε->Prop}(x y z u v)(h0:A x y z u v)(h1:B x y z u v)(h2:C x y z u v)(h3:D x y z u v)(h4:E x y z u v)(h5:F x y z u v): ∃x y z u v,A x y z u v/\B x y z u v/\C x y z u v/\D x y z u v/\E x y z u v/\F x y z u v:=⟨_,_,_,_,_,h0,h1,h2,h3,h4,h5⟩
theorem Ya{A:α->β->γ->δ->ε->ζ->Prop}(x y z u v w)(h:A x y z u v w): ∃x y z u v w,A x y z u v w:=⟨_,_,_,_,_,_,h⟩
theorem Yc{A:α->β->γ->δ->ε->ζ->η->Prop}(x y z u v w p)(h:A x y z u v w p): ∃x y z u v w p,A x y z u v w p:=⟨_,_,_,_,_,_,_,h⟩
theorem X8{A:α->β->γ->δ->ε->ζ->η->θ->ι->Prop}(x y z u v w p q r)(h:A x y z u v w p q r): ∃x y z u v w p q r,A x y z u v w p q r:=⟨_,_,_,_,_,_,_,_,_,h⟩
theorem X5{A:α->β->γ->δ->ε->ζ->η->θ->ι->κ->μ->ν->ξ->π->Prop}(x y z u v w p q r s t a b c)(h:A x y z u v w p q r s t a b c): ∃x y z u v w p q r s t a b c,A x y z u v w p q r s t a b c:=⟨_,_,_,_,_,_,_,_,_,_,_,_,_,_,h⟩
end
namespace L2
open PySem PySem.Spec PyProof.Rows
abbrev Key:=Sum Int Str
noncomputable def EZ:Key->Ł->Bool
 |.inl k,v=>Value.isInt k v
 |.inr x,v=>Value.isStrOf x v
noncomputable def zAP(w:World):Key->Int
 |.inl k=>hashInt k
 |.inr x=>hashStr w x
def yL: ∀{k}{v},EZ k v=true->(∃i t,k=Sum.inl i/\v=Value.int i t)\/(∃x t,k=Sum.inr x/\v=Value.str x t)
 |.inl i,v,h=>by obtain⟨t,e⟩:=Value.isInt_shape h;exact .inl (Z0 i t rfl e)
 |.inr x,v,h=>by obtain⟨t,e⟩:=Value.isStrOf_shape h;exact .inr (Z0 x t rfl e)
def E7(a b):decide ((Sum.inl a:Key)=Sum.inl b)=(a==b):=by
 by_cases e:a=b
 .subst e;simp
 .have h: ¬(Sum.inl a:Key)=Sum.inl b:=λq=>e (Sum.inl.inj q);rw[dF0 h];exact(Ě.mpr e).symm
def E8(a b):decide ((Sum.inr a:Key)=Sum.inr b)=decide (a=b):=by
 by_cases e:a=b
 .subst e;simp
 .have h: ¬(Sum.inr a:Key)=Sum.inr b:=λq=>e (Sum.inr.inj q);rw[dF0 h,dF0 e]
def E9(a)(b):decide ((Sum.inl a:Key)=Sum.inr b)=false:=dF0 (λq=>nomatch q)
def F1(a)(b):decide ((Sum.inr a:Key)=Sum.inl b)=false:=dF0 (λq=>nomatch q)
def kD(prog)(w):PySem.KeyKind prog w Key where
 is:=EZ
 hash:=zAP w
 inj:=λv a b ha hb=>by
  rcases yL ha with⟨i,t,rfl,rfl⟩|⟨x,t,rfl,rfl⟩
  .rcases yL hb with⟨j,u,rfl,e⟩|⟨y,u,rfl,e⟩
   .injection e with e1 _;rw[e1]
   .exact nomatch e
  .rcases yL hb with⟨j,u,rfl,e⟩|⟨y,u,rfl,e⟩
   .exact nomatch e
   .injection e with e1 _;rw[e1]
 byValue:=λk v h=>by rcases yL h with⟨i,t,rfl,rfl⟩|⟨x,t,rfl,rfl⟩<;>rfl
 pyHash:=λhv h=>by
  rcases yL hv with⟨i,t,rfl,rfl⟩|⟨x,t,rfl,rfl⟩
  .exact wpAny_pyHash_int h
  .exact wpAny_pyHash_str h
 eqBool:=λhu hv h=>by
  rcases yL hu with⟨i,t,rfl,rfl⟩|⟨x,t,rfl,rfl⟩
  .rcases yL hv with⟨j,u,rfl,rfl⟩|⟨y,u,rfl,rfl⟩
   .rw[E7]at h;exact wpAny_eqBool_int h
   .rw[E9]at h;exact SeqAt.EqAt.int_str i t y u _ _ _ _ h
  .rcases yL hv with⟨j,u,rfl,rfl⟩|⟨y,u,rfl,rfl⟩
   .rw[F1]at h;exact SeqAt.EqAt.str_int x t j u _ _ _ _ h
   .rw[E8]at h;exact wpAny_eqBool_str h
 «strs»:=λk x t v h=>by
  rcases yL h with⟨i,u,rfl,e⟩|⟨y,u,rfl,e⟩
  .exact nomatch e
  .injection e with e1 _
   subst e1;cases v<;>rfl
def IC(prog)(w)(i)(t):(kD prog w).is (.inl i) (.int i t)=true:=(show EZ (.inl i) (.int i t)=true by simp[EZ,Value.isInt])
def AT(prog)(w)(x)(t):(kD prog w).is (.inr x) (.str x t)=true:=(show EZ (.inr x) (.str x t)=true by simp[EZ,Value.isStrOf])
inductive V where
 |non|bl (b:Bool)|int (i:Int)|str (x:Str)|byt (b:Array UInt8)|flt (b:UInt64)|ref (a:Addr)|ty (n:String)
 deriving DecidableEq
def RelV:V->Ł->Prop
 |.non,u=>u=Value.none
 |.bl b,u=>u=Value.bool b
 |.int i,u=> ∃t,u=Value.int i t
 |.str x,u=> ∃t,u=Value.str x t
 |.byt b,u=> ∃t,u=Value.bytes b t
 |.flt b,u=> ∃t,u=Value.float b t
 |.ref a,u=>u=Value.ref a
 |.ty n,u=>u=Value.type n
abbrev Vals:List V->List Value->Prop:=Paired RelV
def Vals.length(r:Vals xs us):↑8=us.length:=Paired.length r
theorem Vals.get: ∀{xs}{d}{i:Nat}{x},Vals xs d->xs[i]? =some x-> ∃u,d[i]? =some u/\RelV x u
 |_,_,_,_,.nil,e=>by simp at e
 |_,_,0,_,.cons r _,e=>by simp at e;subst e;exact⟨_,rfl,r⟩
 |_,_,i+1,x,.cons _ t,e=>by refine(Vals.get t (by simpa using e)).a λu m q=>?_;exact⟨u,by simpa using m,q⟩
theorem Vals.set(r:RelV x u): ∀{xs}{d} i ,Vals xs d->Vals (xs.set i x) (d.set i u)
 |_,_,_,.nil=>.nil
 |_,_,0,.cons _ t=>.cons r t
 |_,_,i+1,.cons q t=>.cons q (Vals.set r i t)
def Vals.append: ∀{xs ys}{d ws},Vals xs d->Vals ys ws->Vals (xs++ys) (d++ws):=λa=>by
 induction a with
 |nil=>exact(λs=>s)
 |cons r t ih=>exact(λs=>.cons r (ih s))
theorem Vals.take: ∀{xs}{d} n ,Vals xs d->Vals (xs.take n) (d.take n)
 |_,_,0,_=>.nil
 |_,_,_+1,.nil=>.nil
 |_,_,n+1,.cons r t=>.cons r (Vals.take n t)
theorem Vals.drop: ∀{xs}{d} n ,Vals xs d->Vals (xs.drop n) (d.drop n)
 |_,_,0,r=>r
 |_,_,_+1,.nil=>.nil
 |_,_,n+1,.cons _ t=>Vals.drop n t
theorem Vals.none_of: ∀{xs}{d}{i:Nat},Vals xs d->xs[i]? =none->d[i]? =none:=λ{xs d i} r e=>by have b:=r.length;have a:=Ī.mp e;exact Ī.mpr #[0]
def zAQ:Option V->Option Ł->Prop
 |some v,some u=>RelV v u
 |none,none=>True
 |_,_=>False
def KV{a:Type}:List (a×V)->List (a×Ł)->Prop:=Paired λ(p:a×V) (q:a×Ł)=>p.1=q.1/\RelV p.2 q.2
noncomputable def kV:Key->V
 |.inl i=>.int i
 |.inr x=>.str x
inductive HO where
 |lst (xs:List V)
 |tup (xs:List V)
 |dK (kvs:List (Key×V))|dT (kvs:List (List Key×V))
 |set (S:Int->Bool) (n:Nat)
 |ins (C dx:Addr) (fs:List (Str×V))
 |own (x:Addr)
 |xd (fs:List (Str×V))
 |met (f x:Addr)
 |rng (lo hi:Int)
 |frz (o:Obj) (u:HO)
 |tbl (ps:B0)
 |ext (φ:Heap->Prop)
abbrev Hp:=Addr->Option HO
noncomputable def yQ(H:Hp)(a:Addr)(o:HO):Hp:=λb=>if b=a then some o else H b
def zI:yQ H a o a=some o:=by unfold yQ;rw[iP rfl]
def zH(h:b≠a):yQ H a o b=H b:=by unfold yQ;rw[iN0 h]
def zT{H:Hp}(h:H a=some o)(h':H b=none):a≠b:=by intro e;subst e;rw[h]at h';cases h'
section
variable(P:ł)(w:World)
def ObjOk(H:Hp)(h:Heap)(a:Addr):HO->Prop
 |.lst xs=>xs.length<=sizeLine/\ ∃(d:A0)(n:Nat),Vals xs d/\h.get? a=some {cls:=.type "list",data:=.seq d.toArray n}
 |.tup xs=>xs.length<=sizeLine/\ ∃d:List Ł,Vals xs d/\IsTup h a d.toArray
 |.dK kvs=>kvs.length<=sizeLine/\(a==sysModules)=false/\ ∃vs,KV kvs vs/\h.DictOf (kD P w) a vs
 |.dT kvs=>kvs.length<=sizeLine/\(a==sysModules)=false/\ ∃xs:List (List Key×Addr×Ł),
   Paired (λ(p:List Key×V) (q:List Key×Addr×Ł)=>p.1=q.1/\H q.2.1=some (.tup (p.1.map kV))/\RelV p.2 q.2.2) kvs xs/\
   ∃o es ep,h.get? a=some o/\o.ExactDict/\o.data=.dict es ep/\es.toList=xs.map (entryOfKey (tupleKind (kD P w)))/\(xs.map (·.1)).Nodup
 |.set S n=>h.SetOf (intKind P w) a S n
 |.ins C dx fs=>H dx=some (.own a)/\fs.length<=1000/\dx≠a/\h.get? a=some (PySem.W.instObj C dx)/\
   ∃m,h.Ns1 dx m/\(∀f,zAQ (fs.lookup f) (m f))/\PySem.Within m (fs.map (·.1))
 |.own _=> ∃o,h.get? a=some o
 |.xd fs=> ∃m,h.Ns1 a m/\ ∀f,zAQ (fs.lookup f) (m f)
 |.rng lo hi=> ∃t u v,h.get? a=some {cls:=.type "range",data:=.fields #[.int lo t,.int hi u,.int 1 v]}
 |.frz o u=>h.get? a=some o/\ObjOk H h a u
 |.tbl ps=>h.get? a=some {cls:=.none,data:=.fields ps}
 |.met f x=>h.get? a=some (PySem.W.methodObj (.ref f) (.ref x))
 |.ext φ=>φ h/\(∃o,h.get? a=some o)/\ ∀z B:Heap,φ z->(∀o,z.get? a=some o->B.get? a=some o)->φ B
def HOk(H:Hp)(h:Heap):Prop:= ∀a o,H a=some o->ObjOk P w H h a o
end
section
variable{a:Addr}{o:HO}
def ObjOk.lt(x:ObjOk P w H h a o):a<h.objs.size:=by
 cases o with
 |lst xs=>obtain⟨_,_,_,_,e⟩:=x;exact ã e
 |tup xs=>obtain⟨_,_,_,p⟩:=x;exact p.lt
 |dK kvs=>obtain⟨_,_,_,_,o,_,_,e,_⟩:=x;exact ã e
 |dT kvs=>obtain⟨_,_,_,_,o,_,_,e,_⟩:=x;exact ã e
 |set S n=>refine x.i λo _ _ _ b=>b.elim λe _=>?_;exact ã e
 |ins C dx fs=>refine x.h λ_ _ _ e _=>?_;exact ã e
 |own y=>obtain⟨_,e⟩:=x;exact ã e
 |xd fs=>obtain⟨_,⟨_,_,_,e,_⟩,_⟩:=x;exact ã e
 |rng lo hi=>refine x.l λ_ _ _ e=>?_;exact ã e
 |frz ob u=>obtain⟨e,_⟩:=x;exact ã e
 |tbl ps=>exact ã x
 |met f y=>exact ã x
 |ext φ=>refine x.e λ_ c _=>?_;obtain ⟨_,e⟩:=c;exact ã e
def Paired.mapP: ∀{m}{d:List β},Paired F m d->(∀a b,F a b->G a b)->Paired G m d:=λc=>by
 induction c with
 |nil=>exact(λ_=>.nil)
 |cons r t ih=>exact(λf=>.cons (f _ _ r) (ih f))
def ObjOk.stay(x:ObjOk P w H h a o)(k: ∀b u,(b=a\/H b=some (.own a))->h.get? b=some u->h'.get? b=some u)
  (ho: ∀b,H b=some (.own a)->H' b=some (.own a)) (ht: ∀b xs,H b=some (.tup xs)->H' b=some (.tup xs)):ObjOk P w H' h' a o:=by
 induction o with
 |lst xs=>obtain⟨z,m,n,r,e⟩:=x;exact⟨z,m,n,r,k _ _ (.inl rfl) e⟩
 |tup xs=>obtain⟨z,m,r,i,e,c⟩:=x;exact⟨z,m,r,i,k _ _ (.inl rfl) e,c⟩
 |dK kvs=>obtain⟨z,y,B,r,i,es,j,e,c⟩:=x;exact⟨z,y,B,r,i,es,j,k _ _ (.inl rfl) e,c⟩
 |dT kvs=>
  obtain⟨z,y,xs,r,i,es,j,e,c⟩:=x;exact⟨z,y,xs,Paired.mapP r λp q z=>⟨z.1,ht _ _ z.2.1,z.2.2⟩,i,es,j,k _ _ (.inl rfl) e,c⟩
 |set S n=>refine x.i λi es j t g=>g.elim λe c=>?_;exact Y4 i es j t ⟨k _ _ (.inl rfl) e,c⟩
 |ins C dx fs=>
  obtain⟨d,z,ne,e,A,⟨s,es,j,D,c⟩,r⟩:=x;exact⟨ho _ d,z,ne,k _ _ (.inl rfl) e,A,(Zf s es j (k _ _ (.inr d) D) c),r⟩
 |own y=>obtain⟨i,e⟩:=x;exact⟨i,k _ _ (.inl rfl) e⟩
 |xd fs=>obtain⟨A,⟨s,es,j,e,c⟩,r⟩:=x;exact Z8 A (Zf s es j (k _ _ (.inl rfl) e) c) r
 |rng lo hi=>refine x.l λt u v e=>?_;exact Yq t u v (k _ _ (.inl rfl) e)
 |frz i u ih=>obtain⟨e,q⟩:=x;exact⟨k _ _ (.inl rfl) e,ih q⟩
 |tbl ps=>
  have e:=x;exact k a _ (.inl rfl) e
 |met f y=>
  have e:h.get? a=some _:=x;show h'.get? a=some _;exact k a _ (.inl rfl) e
 |ext φ=>refine x.e λp E st=>?_;obtain ⟨o,e⟩:=E;exact⟨st _ _ p λo q=>k _ _ (.inl rfl) q,⟨o,k _ _ (.inl rfl) e⟩,st⟩
def HOk.lt(x:HOk P w H h)(e:H a=some o):a<h.objs.size:=(x a o e).lt
def HOk.fresh(x:HOk P w H h)(e:h.objs.size<=a):H a=none:=by
 cases q:H a with
 |none=>rfl
 |some u=>exact absurd (é (x.lt q) e) (ī _)
def HOk.kept(x:HOk P w H h)(k: ∀b u,h.get? b=some u->h'.get? b=some u):HOk P w H h':=λa o e=>
 (x a o e).stay (λb u _ q=>k b u q) (λ_ q=>q) λ_ _ q=>q
def HOk.laid(x:HOk P w H h)(k: ∀b u,h.get? b=some u->h'.get? b=some u)(j:h.objs.size<=a)(new:ObjOk P w (yQ H a o) h' a o):HOk P w (yQ H a o) h':=λb u e=>by
 have d:=x.fresh j;by_cases i:b=a
 .subst i;rw[zI]at e;cases e;exact new
 .rw[zH i]at e;exact(x b u e).stay (λc v _ q=>k c v q) (λc q=>by rw[zH (zT q d)];exact q) λc xs q=>by rw[zH (zT q d)];exact q
end
def Rd(H:Hp)(a:Addr)(u:HO):Prop:=H a=some u\/ ∃o,H a=some (.frz o u)
def Rd.of(h:H a=some u):Rd H a u:=.inl h
def Rd.ok(r:Rd H a u)(x:HOk P w H h):ObjOk P w H h a u:=by
 rcases r with r|⟨o,r⟩
 .exact x a u r
 .obtain⟨_,q⟩:=x a _ r;exact q
def F2:Option HO->Prop
 |some (.lst _)=>True
 |some (.dK _)=>True
 |some (.dT _)=>True
 |some (.set _ _)=>True
 |some (.ins _ _ _)=>True
 |some (.ext _)=>True
 |_=>False
section
theorem HOk.write(ok:HOk P w H h)(i:F2 (H x))(o:e=x\/H e=some (.own x))(k: ∀b u,b≠e->h.get? b=some u->h'.get? b=some u)(n: ∃u,h'.get? e=some u)
  (new:ObjOk P w (yQ H x o') h' x o'):HOk P w (yQ H x o') h':=λb u q=>by
 have d: ∀c y,H c=some (.own y)->c≠x:=λc y r z=>by subst z;rw[r]at i;exact i
 by_cases j:b=x
 .subst j;rw[zI]at q;cases q;exact new
 .rw[zH j]at q;by_cases a:b=e
  .have p:H b=some (.own x):=by
    rcases o with z|z
    .exact absurd (a.trans z) j
    .rw[a];exact z
   rw[q]at p;cases p;obtain⟨v,s⟩:=n;exact⟨v,by rw[a];exact s⟩
  .refine(ok b u q).stay (λc v m r=>k c v ?_ r) (λc r=>by rw[zH (d c b r)];exact r) λc xs r=>by rw[zH ((λc xs r z=>by subst z;rw[r]at i;exact i) c xs r)];exact r
   rcases m with rfl|m
   .exact a
   .rintro rfl;rcases o with z|z
    .exact d c b m z
    .rw[m]at z;cases z;exact j rfl
end
structure Un(fs ex:B9)(H H':Hp)(h h':Heap):Prop where
 keep: ∀b o,h.get? b=some o->H b=none->b∉fs->b∉ex->h'.get? b=some o
 slot: ∀b o,h.get? b=some o->H b=none->b∈fs->b∉ex-> ∃sl,h'.get? b=some {o with slots:=sl}
 free: ∀b o,h.get? b=some o->H b=none->b∉ex->H' b=none
 there: ∀b o,h.get? b=some o->b∉ex-> ∃o',h'.get? b=some o'
 tups: ∀b xs,H b=some (.tup xs)->H' b=some (.tup xs)
 frzs: ∀b o u,H b=some (.frz o u)->H' b=some (.frz o u)
 tbls: ∀b ps,H b=some (.tbl ps)-> ∃more,H' b=some (.tbl (ps++more))
section
variable{h:Heap}{a:Addr}
def Un.any(u:Un fs ex H H1 h h1)(q:h.get? b=some ob)(n:H b=none)(a:b∉ex): ∃sl,h1.get? b=some {ob with slots:=sl}:=by
 by_cases c:b∈fs
 .exact u.slot b ob q n c a
 .exact⟨_,u.keep b ob q n c a⟩
def Un.kept(k: ∀b u,h.get? b=some u->h'.get? b=some u):Un fs ex H H h h':=
 ⟨λb a q _ _ _=>k b a q,λb a q _ _ _=>⟨_,k b a q⟩,λ_ _ _ n _=>n,λb a q _=>⟨a,k b a q⟩,λ_ _ q=>q,λ_ _ _ q=>q,λ_ ps q=>⟨#[],by rw[q];simp⟩⟩
def Un.refl:Un fs ex H H h h:=Un.kept λ_ _ q=>q
def Un.laid(k: ∀b u,h.get? b=some u->h'.get? b=some u)(hp:h.objs.size<=a)(hn:H a=none):Un fs ex H (yQ H a o) h h' where
 keep:=λb u q _ _ _=>k b u q
 slot:=λb u q _ _ _=>⟨_,k b u q⟩
 free:=λb u q n _=>by rw[zH (ê (é (ã q) hp))];exact n
 there:=λb u q _=>⟨u,k b u q⟩
 tups:=λb xs q=>by rw[zH (zT q hn)];exact q
 frzs:=λb u xs q=>by rw[zH (zT q hn)];exact q
 tbls:=λb ps q=>⟨#[],by rw[zH (zT q hn),q];simp⟩
def Un.write(c:F2 (H x))(p:e=x\/H e=some (.own x))(k: ∀b u,b≠e->h.get? b=some u->h'.get? b=some u)(i: ∃u,h'.get? e=some u):Un fs ex H (yQ H x o) h h':=by
 have j: ∀b,H b=none->b≠x:=λb n z=>by subst z;rw[n]at c;exact c
 have m: ∀b,H b=none->b≠e:=λb n z=>by
  subst z;rcases p with r|r
  .exact j b n r
  .rw[n]at r;cases r
 have d: ∀b u,H b=some u-> ¬F2 (some u)->b≠x:=λb u q nm z=>by subst z;rw[q]at c;exact nm c
 refine⟨λb u q n _ _=>k b u (m b n) q,λb u q n _ _=>⟨_,k b u (m b n) q⟩,λb u q n _=>by rw[zH (j b n)];exact n,λb u q _=>?_,
  λb xs q=>by rw[zH (d b _ q λz=>z)];exact q,λb u xs q=>by rw[zH (d b _ q λz=>z)];exact q,λb ps q=>⟨#[],by rw[zH (d b _ q λz=>z),q];simp⟩⟩
 by_cases a:b=e
 .subst a;exact i
 .exact⟨u,k b u a q⟩
end
noncomputable def trk(h:Heap)(H:Hp):List Addr:=(List.range h.objs.size).filter λa=>(H a).isSome
def Hn(h:Heap)(H:Hp):Heap:=PySem.W.hideAll h (trk h H)
def Tp(e:(Hn h H).get? b=some o):h.get? b=some o/\H b=none:=by
 have a:=PySem.W.of_hideAll _ e;refine⟨a,?_⟩
 cases q:H b with
 |none=>rfl
 |some x=>
  have z:(Hn h H).get? b=none:=PySem.W.hideAll_none _ (Ā.mpr ⟨ø.mpr (ã a),by simp[q]⟩);rw[z]at e;cases e
noncomputable def Tq(g h:Heap)(L:Addr):List (Addr×Obj):=(List.range h.objs.size).filterMap λa=>if a=L\/(g.get? a).isSome=true then none else(h.get? a).map λo=>(a,o)
def rest(g h:Heap)(L d:Addr):List (Addr×Obj):=(Tq g h L).filter λp=>decide (p.1≠d)
structure Mod(K:P0)(mg:K0)(base:Heap):Prop where
 kin:K.In base
 glob:base.Ns mainGlobals mg
 blt: ∃mb,base.Ns builtinsNs mb/\ ∀x:Str,x≠"__name__"->mb x=bootBuiltins x
 nolimit:base.NoLimit
structure Cx where
 prog:ł
 w:World
 K:PySem.W.Frag
 mg:Str->Option Ł
 base:Heap
 A:Around
 N:List Str
 s₀:ŀ
 H₀:Hp
 env:Env
 outer:List Env
 stack:List Env
 ex:List Addr
 fn:Str->Bool
 calm:Bool
 pn:List (Addr×Obj)
 xe:VP
noncomputable def OL(l:List Env):List Addr:=l.filterMap (·.frame)
abbrev Cx.fs(X:Cx):List Addr:=OL X.outer
def La(a:Scope)(x:Str):Prop:=a.names.lookup x=some .local\/a.names.lookup x=some .cell\/a.names.lookup x=some .free
def Loc(a:Scope)(x:Str):Prop:=a.names.lookup x=some .local\/a.names.lookup x=some .cell
def Look(env:Env)(h:Heap)(m:K0)(x:Str)(u:Ł):Prop:=
 (env.kindOf x=some .local/\m x=some u)\/((env.kindOf x=some .cell\/env.kindOf x=some .free)/\ ∃c,env.cells.lookup x=some c/\h.IsCell c (some u))
structure Cx.Ok(X:Cx):Prop where
 mod:Mod X.K X.mg X.base
 kind:X.env.scope.kind=.function
 glob:X.env.globals=mainGlobals
 blt:X.env.builtins=builtinsNs
 above:X.s₀.heap.objs.size<=X.env.locals
 inj: ∀x y c,X.env.cells.lookup x=some c->X.env.cells.lookup y=some c->x=y
 has: ∀x,(X.env.kindOf x=some .cell\/X.env.kindOf x=some .free)-> ∃c,X.env.cells.lookup x=some c
 cab: ∀x c,X.fn x=true->X.env.cells.lookup x=some c->X.s₀.heap.objs.size<=c
 hd:X.calm=true->X.A.handled=none
 frames:X.A.frames=some X.stack
 stk:X.stack=X.outer\/(X.stack=X.env::X.outer/\X.env.frame=some X.env.locals)
 exf: ∀b∈X.ex,b≠X.env.locals/\ ∀x c,X.env.cells.lookup x=some c->c≠b
 bs: ∀b o,X.base.get? b=some o->X.s₀.heap.get? b=some o/\X.H₀ b=none
 bsz:X.base.objs.size<=X.s₀.heap.objs.size
 noex: ∀b o,X.base.get? b=some o->b∉X.ex
 exfs: ∀b∈X.ex,b∉X.fs
 funs:X.s₀.heap.FunFrames X.base X.outer
 frf: ∀b∈X.fs,X.H₀ b=none
structure Inv(X:Cx)(pins:L1)(σ:List (Option V))(H:Hp)(s:ŀ):Prop where
 ok:X.Ok
 os:s.os=X.s₀.os
 bare:AllBare s.gens
 base:Un X.fs X.ex X.H₀ H X.s₀.heap s.heap
 loc: ∃m,s.heap.Ns X.env.locals m/\ ∀(i:Nat)(x:Str)(v:V),X.N[i]? =some x->σ[i]? =some (some v)->La ↑23 x-> ∃u,RelV v u/\Look X.env s.heap m x u
 cell: ∀x c,X.env.cells.lookup x=some c-> ∃v,s.heap.IsCell c v
 free:H X.env.locals=none
 freeC: ∀x c,X.env.cells.lookup x=some c->H c=none
 pin: ∀p∈X.pn++pins,s.heap.get? p.1=some p.2/\H p.1=none/\p.1≠X.env.locals/\p.1∉X.fs/\ ∀v,p.2.data≠.cell v
 hok:HOk X.prog X.w H s.heap
 len:σ.length=X.N.length
section
variable{X:Cx}{h':Heap}
def Cx.Ok.nofr(ok:X.Ok)(e:X.base.get? b=some o):b∉X.fs:=λa=>by have:=(ok.funs.mem a).1;rw[e]at this;cases this
def Inv.bs(I:↑1): ∀b o,X.base.get? b=some o->s.heap.get? b=some o/\H b=none:=λb o e=>
 ⟨I.base.keep b o (I.ok.bs b o e).1 (I.ok.bs b o e).2 (I.ok.nofr e) (I.ok.noex b o e),I.base.free b o (I.ok.bs b o e).1 (I.ok.bs b o e).2 (I.ok.noex b o e)⟩
def Inv.bk(I:↑1): ∀b o,X.base.get? b=some o->s.heap.get? b=some o:=λb o e=>(I.bs b o e).1
def Inv.mod(I:↑1):Mod X.K X.mg X.base:=I.ok.mod
def Inv.kIn(I:↑1):X.K.In s.heap:=I.ok.mod.kin.keeps I.bk
def Inv.lt(I:↑1):X.env.locals<s.heap.objs.size:=let ⟨_,a,_⟩:=I.loc;a.lt
def Inv.sz(I:↑1):X.s₀.heap.objs.size<=s.heap.objs.size:=í I.ok.above (le_of_lt I.lt)
def Inv.nofs(I:↑1){a:Addr}(h:↑3<=a):a∉X.fs:=λc=>by obtain⟨_,o,b,_⟩:=I.ok.funs.mem c;exact absurd (é (ã b) (í I.sz h)) (ī _)
def Inv.cne(I:↑1): ∀x c,X.env.cells.lookup x=some c->c≠X.env.locals:=λx c e z=>by refine(I.cell x c e).d λv o d h=>?_;refine I.loc.a λm g _=>?_;obtain ⟨j,es,i,a,b,_⟩:=g;rw[z,a]at d;cases d;rw[b]at h;cases h
def Inv.funs(I:↑1):s.heap.FunFrames X.base X.outer:=by
 have all: ∀(l:List Env),(∀b∈OL l,b∈X.fs)->X.s₀.heap.FunFrames X.base l->s.heap.FunFrames X.base l:=by
  intro l
  induction l with
  |nil=>intro _ _;trivial
  |cons env r ih=>
   intro hs m;refine m.e λj g h=>?_;obtain ⟨L,o,c,i,n,k⟩:=g;have d:=hs L (by unfold OL;rw[ĝ,c];exact mF0);obtain⟨sl,e⟩:=I.base.slot L o n (I.ok.frf L d) d λz=>I.ok.exfs L z d;exact⟨j,(ZB L _ c i e k),ih (λb a=>hs b (by unfold OL;rw[ĝ,c];exact mO _ a)) h⟩
 exact all X.outer (λ_ a=>a) I.ok.funs
def Inv.stack(I:↑1):s.heap.FunFrames X.base X.stack:=by
 rcases I.ok.stk with e|⟨e,hf⟩
 .rw[e];exact I.funs
 .rw[e];refine I.loc.a λm a _=>?_;refine .cons (by rw[I.ok.kind];decide) hf a ?_ I.funs;exact Heap.get?_none_of_le (í I.ok.bsz I.ok.above)
def Inv.stkSub(I:↑1): ∀b∈OL X.stack,b∈X.env.locals::X.fs:=λb a=>by
 rcases I.ok.stk with e|⟨e,hf⟩
 .rw[e]at a;exact mO _ a
 .rw[e]at a;unfold OL at a;rw[ĝ,hf]at a;exact a
def Inv.stkFree(I:↑1): ∀b∈OL X.stack,H b=none:=λb a=>by
 rcases mC.mp (I.stkSub b a)with e|a
 .rw[e];exact I.free
 .obtain⟨_,o,c,_⟩:=I.ok.funs.mem a;exact I.base.free b o c (I.ok.frf b a) λz=>I.ok.exfs b z a
def Inv.step{ch:B9}(I:↑1)
  (hch:↑18)
  (keep: ∀b o,b≠X.env.locals->b∉X.fs->b∉ch->s.heap.get? b=some o->H b=none->h'.get? b=some o)
  (slot: ∀b o,b≠X.env.locals->b∈X.fs->b∉ch->s.heap.get? b=some o->H b=none-> ∃sl,h'.get? b=some {o with slots:=sl}) (free: ∀b o,b∉ch->s.heap.get? b=some o->H b=none->H' b=none)
  (there: ∀b o,b∉ch->s.heap.get? b=some o-> ∃D,h'.get? b=some D)
  (tups: ∀b xs,H b=some (.tup xs)->H' b=some (.tup xs)) (frzs: ∀b o u,H b=some (.frz o u)->H' b=some (.frz o u)) (tbls: ∀b ps,H b=some (.tbl ps)-> ∃more,H' b=some (.tbl (ps++more)))
  (ns: ∀m,s.heap.Ns X.env.locals m->h'.Ns X.env.locals m) (hok:HOk X.prog X.w H' h') (hg:AllBare g'):
  Inv X pins σ H' {s with heap:=h',gens:=g',drawn:=d',toks:=t'}:=by
 have E: ∀b o,X.s₀.heap.get? b=some o->b≠X.env.locals:=λb o e=>ê (é (ã e) I.ok.above)
 have A: ∀b o,X.s₀.heap.get? b=some o->b∉X.ex->b∉ch:=λb o e a B=>by
  rcases (hch b B).1 with z|z
  .exact a z
  .exact absurd (é (ã e) z) (ī _)
 have h: ∀x c,X.env.cells.lookup x=some c-> ∀v,s.heap.IsCell c v->h'.IsCell c v:=λx c e v ⟨o,C,G⟩=>by
  have j:=λz=>(hch c z).2.2.1 x c e rfl;by_cases K:c∈X.fs
  .obtain⟨sl,q⟩:=slot c o (I.cne x c e) K j C (I.freeC x c e);exact Z8 _ q G
  .exact⟨o,keep c o (I.cne x c e) K j C (I.freeC x c e),G⟩
 refine⟨I.ok,I.os,hg,⟨λb o e n B a=>?_,λb o e n B a=>?_,λb o e n a=>?_,λb o e a=>?_,λb xs e=>tups b xs (I.base.tups b xs e),λb o xs e=>frzs b o xs (I.base.frzs b o xs e),λb ps e=>?_⟩,?_,λx c e=>?_,?_,λx c e=>?_,λp L=>?_,hok,I.len⟩
 .exact keep b o (E b o e) B (A b o e a) (I.base.keep b o e n B a) (I.base.free b o e n a)
 .obtain⟨sl,y⟩:=I.base.slot b o e n B a;obtain⟨J,F⟩:=slot b _ (E b o e) B (A b o e a) y (I.base.free b o e n a);exact⟨J,F⟩
 .obtain⟨D,y⟩:=I.base.there b o e a;exact free b D (A b o e a) y (I.base.free b o e n a)
 .obtain⟨D,y⟩:=I.base.there b o e a;exact there b D (A b o e a) y
 .obtain⟨P,y⟩:=I.base.tbls b ps e;obtain⟨Q,F⟩:=tbls b _ y;exact⟨_,by rw[F,Array.append_assoc]⟩
 .refine I.loc.a λm M O=>?_;refine Z8 m (ns m M) (λi x v y F N=>?_);refine(O i x v y F N).a λu r l=>?_;refine Z8 u r ?_;rcases l with l|⟨k,c,e,z⟩
  .exact .inl l
  .exact .inr ⟨k,c,e,h x c e _ z⟩
 .obtain⟨v,z⟩:=I.cell x c e;exact⟨v,h x c e v z⟩
 .refine I.loc.a λm g _=>?_;obtain ⟨o,_,_,C,_⟩:=g;exact free _ o (λz=>(hch _ z).2.1 rfl) C I.free
 .refine(I.cell x c e).d λv o C G=>?_;exact free c o (λz=>(hch c z).2.2.1 x c e rfl) C (I.freeC x c e)
 .refine(I.pin p L).h λe n ne nf d=>?_;have j:=λz=>(hch p.1 z).2.2.2 p L rfl;exact⟨keep p.1 p.2 ne nf j e n,free p.1 p.2 j e n,ne,nf,d⟩
def Inv.un(I:Inv X pins σ H s)(u:Un X.fs [] H H' s.heap h')(d:HOk X.prog X.w H' h'):Inv X pins σ H' {s with heap:=h',toks:=t'}:=by refine(id I.loc).a λm g _=>?_;obtain ⟨o,es,v,j,r⟩:=g;obtain⟨sl,k⟩:=u.any j I.free (by simp);exact I.step (ch:=[]) (λ_ z=>nomatch z) (λb o _ c _ e n=>u.keep b o e n c (by simp)) (λb o _ c _ e n=>u.slot b o e n c (by simp)) (λb o _ e n=>u.free b o e n (by simp)) (λb o _ e=>u.there b o e (by simp)) u.tups u.frzs u.tbls (λA q=>by refine q.m λy i h a p=>?_;rw[j]at a;cases a;exact Zf _ i h k p) d I.bare
def Inv.call(I:↑1)(u:Un (OL X.stack) ch H H' s.heap h')(i:HOk X.prog X.w H' h')(A:AllBare g')
  (hch:↑18):
  Inv X pins σ H' {s with heap:=h',gens:=g',drawn:=d',toks:=t'}:=by
 refine(id I.loc).a λm g _=>?_;obtain ⟨o,es,C,q,r⟩:=g;obtain⟨sl,h⟩:=u.any q I.free λz=>(hch _ z).2.1 rfl;exact I.step hch (λb o h v a e n=>u.keep b o e n (λz=>(mC.mp (I.stkSub b z)).elim h v) a) (λb o _ _ a e n=>u.any e n a) (λb o a e n=>u.free b o e n a) (λb o a e=>u.there b o e a) u.tups u.frzs u.tbls (λE B=>by refine B.m λD k j d y=>?_;rw[q]at d;cases d;exact Zf _ k j h y) i A
def Inv.turned(I:↑1)(k: ∀b o,b≠it->s.heap.get? b=some o->h'.get? b=some o)(i:H it=none)(h:it≠X.env.locals)
  (h1:it∈X.ex\/X.s₀.heap.objs.size<=it) (h2: ∀x c,X.env.cells.lookup x=some c->c≠it) (h3: ∀p∈X.pn++pins,p.1≠it):Inv X pins σ H {s with heap:=h',toks:=t'}:=by
 have d: ∀b u,H b=some u->b≠it:=λb u e z=>by rw[z,i]at e;cases e
 refine I.step (ch:=[it]) (λb j=>?_) (λb o _ _ a e _=>k b o (λz=>a (by simp[z])) e) (λb o _ _ a e _=>⟨_,k b o (λz=>a (by simp[z])) e⟩) (λ_ _ _ _ n=>n)
  (λb o a e=>⟨o,k b o (λz=>a (by simp[z])) e⟩) (λ_ _ e=>e) (λ_ _ _ e=>e) (λb ps e=>⟨#[],by rw[e];simp⟩) (λm y=>?_) (λb u e=>?_) I.bare
 .have e:=by simpa using j
  subst e;exact⟨h1,h,h2,h3⟩
 .refine y.m λo es w A r=>?_;exact Zf o es w (k _ o (Ne.symm h) A) r
 .refine(I.hok b u e).stay (λc v a q=>k c v ?_ q) (λ_ q=>q) λ_ _ q=>q;rcases a with z|z
  .rw[z];exact d b u e
  .exact d c _ z
def Inv.tok(I:↑1)(t):Inv X pins σ H {s with toks:=t}:=I.un Un.refl I.hok
def Inv.kept(I:↑1)(k: ∀b u,s.heap.get? b=some u->h'.get? b=some u):Inv X pins σ H {s with heap:=h',toks:=t'}:=I.un (Un.kept k) (I.hok.kept k)
def Inv.laid{a:Addr}(I:↑1)(k: ∀b u,s.heap.get? b=some u->h'.get? b=some u)(c:↑3<=a)(new:ObjOk X.prog X.w (yQ H a o) h' a o):
  Inv X pins σ (yQ H a o) {s with heap:=h',toks:=t'}:=I.un (Un.laid k c (I.hok.fresh c)) (I.hok.laid k c new)
def Inv.write(I:↑1)(d:F2 (H x))(c:e=x\/H e=some (.own x))(k: ∀b u,b≠e->s.heap.get? b=some u->h'.get? b=some u)(a: ∃u,h'.get? e=some u)
  (new:ObjOk X.prog X.w (yQ H x o) h' x o):Inv X pins σ (yQ H x o) {s with heap:=h',toks:=t'}:=I.un (Un.write d c k a) (I.hok.write d c k a new)
def Inv.pins_of(I:↑1)(h: ∀p∈pins',s.heap.get? p.1=some p.2/\H p.1=none/\p.1≠X.env.locals/\p.1∉X.fs/\ ∀v,p.2.data≠.cell v):Inv X pins' σ H s:=
 ⟨I.ok,I.os,I.bare,I.base,I.loc,I.cell,I.free,I.freeC,λp a=>(á.mp a).elim (λz=>I.pin p (õ _ z)) (h p),I.hok,I.len⟩
def KP{N:C0}(c:N.Nodup){i:Nat}(a:N[i]? =some x)(b:N[j]? =some x):i=j:=by obtain⟨h,e⟩:=gS.mp a;obtain⟨k,d⟩:=gS.mp b;exact(getElem_inj c).mp (e.trans d.symm)
abbrev Q0(X:Cx)(x:Str):Prop:=X.fn x=true\/X.env.scope.names.lookup x=some .local
def PN(I:↑1)(hN:X.N.Nodup)(hi:X.N[i]? =some x)(F:Loc ↑23 x)(r:RelV v u)
  (h: ∀s',Inv X pins (σ.set i (some v)) H s'->(∃a,Heap.SameBut a s.heap s'.heap/\(a=X.env.locals\/X.env.cells.lookup x=some a))->Q () s') (hf:Q0 X x:=by first |exact .inl rfl|exact .inr rfl|assumption):wpAny M A (storeName X.env x u) Q E s:=by
 refine(id I.loc).a λm hn hl=>?_;have K:i<σ.length:=by rw[I.len];exact(gS.mp hi).1
 have cne:=I.cne
 have B: ∀{a:Addr}{h':Heap},(∃o,s.heap.get? a=some o/\H a=none)->Heap.SameBut a s.heap h'->HOk X.prog X.w H h':=λ{a h'} ha hs b ob e=>by
  obtain⟨_,_,G⟩:=ha;refine(I.hok b ob e).stay (λc Y D q=>(hs.2 c ?_).trans q) (λ_ q=>q) λ_ _ q=>q;rintro rfl;rcases D with rfl|D
  .rw[G]at e;cases e
  .rw[G]at D;cases D
 rcases F with hk|hk
 .refine wpAny_storeName_local hk hn (λh' aa hs=>?_) (by rw[I.ok.kind];rfl);refine(id hn).m λoL _ _ ab _=>?_;refine h _ ⟨I.ok,I.os,I.bare,⟨λb o e n L F=>?_,λb o e n L F=>?_,I.base.free,λb o e F=>?_,I.base.tups,I.base.frzs,I.base.tbls⟩,(Z8 _ aa (λj y v' C J e3=>?_)),λy c e=>?_,I.free,I.freeC,λp hp=>?_,B (Z8 oL ab I.free) hs,by simpa using I.len⟩ ⟨_,hs,.inl rfl⟩
  .exact(hs.2 b (ê (é (ã e) I.ok.above))).trans (I.base.keep b o e n L F)
  .obtain⟨sl,C⟩:=I.base.slot b o e n L F;exact⟨sl,(hs.2 b (ê (é (ã e) I.ok.above))).trans C⟩
  .obtain⟨o',C⟩:=I.base.there b o e F;exact⟨o',(hs.2 b (ê (é (ã e) I.ok.above))).trans C⟩
  .by_cases P:j=i
   .subst P;rw[hi]at C;cases C;rw[č K]at J;cases J;exact Z8 u r (.inl ⟨hk,by simp⟩)
   .rw[Ĉ (Ne.symm P)]at J;refine(hl j y v' C J e3).a λu' r' q=>?_;refine⟨u',r',?_⟩;rcases q with⟨k,e⟩|⟨k,c,e,z⟩
    .refine .inl ⟨k,?_⟩;have:y≠x:=λe=>P (KP hN C (e▸hi));simp[this,e]
    .exact .inr ⟨k,c,e,z.sameBut hs (cne y c e)⟩
  .obtain⟨Y,z⟩:=I.cell y c e;exact⟨Y,z.sameBut hs (cne y c e)⟩
  .refine(I.pin p hp).h λe n ne nf d=>?_;exact⟨(hs.2 p.1 ne).trans e,n,ne,nf,d⟩
 .have O:X.fn x=true:=by
   rcases hf with z|z
   .exact z
   .rw[z]at hk;cases hk
  obtain⟨c,D⟩:=I.ok.has x (.inl hk);obtain⟨Y,z⟩:=I.cell x c D;refine wpAny_storeName_cell I.ok.kind hk D z (λh' T hs=>?_);refine(id z).a λoc U S=>?_;refine h {s with heap:=h'} ⟨I.ok,I.os,I.bare,⟨λb o e n L F=>?_,λb o e n L F=>?_,I.base.free,λb o e F=>?_,I.base.tups,I.base.frzs,I.base.tbls⟩,(Z8 m (hn.sameBut hs (Ne.symm (cne x c D))) (λj y v' C J e3=>?_)),λy Z e=>?_,I.free,I.freeC,λp hp=>?_,B (Z8 oc U (I.freeC x c D)) hs,by simpa using I.len⟩ ⟨c,hs,.inr D⟩
  .exact(hs.2 b (ê (é (ã e) (I.ok.cab x c O D)))).trans (I.base.keep b o e n L F)
  .obtain⟨sl,C⟩:=I.base.slot b o e n L F;exact⟨sl,(hs.2 b (ê (é (ã e) (I.ok.cab x c O D)))).trans C⟩
  .obtain⟨o',C⟩:=I.base.there b o e F;exact⟨o',(hs.2 b (ê (é (ã e) (I.ok.cab x c O D)))).trans C⟩
  .by_cases P:j=i
   .subst P;rw[hi]at C;cases C;rw[č K]at J;cases J;exact Z8 u r (.inr ⟨.inl hk,c,D,T⟩)
   .rw[Ĉ (Ne.symm P)]at J;refine(hl j y v' C J e3).a λu' r' q=>?_;refine⟨u',r',?_⟩;rcases q with q|⟨k,Z,e,z'⟩
    .exact .inl q
    .refine .inr ⟨k,Z,e,z'.sameBut hs ?_⟩;rintro rfl;exact P (KP hN C (I.ok.inj _ _ _ e D▸hi))
  .by_cases W:Z=c
   .subst W;exact⟨_,T⟩
   .obtain⟨w2,z2⟩:=I.cell y Z e;exact⟨w2,z2.sameBut hs W⟩
  .refine(I.pin p hp).h λe n ne nf d=>?_;refine⟨(hs.2 p.1 ?_).trans e,n,ne,nf,d⟩;intro q;rw[q,U]at e;exact d Y (by rw[<-(å e)];exact S)
def FA(I:↑1)(b:X.N.Nodup)(hi:X.N[i]? =some x)(c:Loc ↑23 x)(r:RelV v u)
  (h: ∀d,Inv X pins (σ.set i (some v)) H d->Q () d) (hf:Q0 X x:=by first |exact .inl rfl|exact .inr rfl|assumption):wpAny M A (storeName X.env x u) Q E s:=
 PN I b hi c r (λd a _=>h d a) hf
def Inv.call'(I:↑1)(ho:s'.os=s.os)(u:Un (OL X.stack) ch H H' s.heap s'.heap)(a:HOk X.prog X.w H' s'.heap)(d:AllBare s'.gens)
  (hch:↑18):Inv X pins σ H' s':=by
 obtain⟨h',h,e,j,i⟩:=s';subst ho;exact I.call u a d hch
end
abbrev XK:=Value->Option Addr->Hp->Prop
abbrev St:=List (Option V)
abbrev VK:=V->Hp->Prop
abbrev TE:=St->Hp->VK->Prop
abbrev TT:=St->Hp->(Bool->Hp->Prop)->Prop
abbrev TA:=St->Hp->(List V->Hp->Prop)->Prop
structure Ends where
 nx:St->Hp->Prop
 rt:VK
 bk:St->Hp->Prop:=λ_ _=>False
 ct:St->Hp->Prop:=λ_ _=>False
abbrev TS:=Ends->St->Hp->Prop
def EP(X:Cx)(pins:L1)(σ:St)(Q:VK)(u:Ł)(a:ŀ):Prop:= ∃v H',Inv X pins σ H' a/\RelV v u/\Q v H'
def TP(X:Cx)(pins:L1)(σ:St)(Q:Bool->Hp->Prop)(b:Bool)(a:ŀ):Prop:= ∃H',Inv X pins σ H' a/\Q b H'
def AP(X:Cx)(pins:L1)(σ:St)(Q:List V->Hp->Prop)(b:A0)(c:ŀ):Prop:= ∃a H',Inv X pins σ H' c/\Vals a b/\Q a H'
def SP(X:Cx)(pins:L1)(D:Ends)(f:Flow)(b:ŀ):Prop:=
 match f with
 |.next=> ∃a H',Inv X pins a H' b/\D.nx a H'
 |.brk=> ∃a H',Inv X pins a H' b/\D.bk a H'
 |.cont=> ∃a H',Inv X pins a H' b/\D.ct a H'
 |.ret u=> ∃v a H',Inv X pins a H' b/\RelV v u/\D.rt v H'
def PE(X:Cx)(e:Expr)(t:TE):Prop:=
 ∀(pins:L1)(s:ŀ)(σ:St)(H:Hp)(Q:VK),Inv X pins σ H s->t σ H Q->wpAny ↑5 X.A (eval e X.env) (EP X pins σ Q) X.xe s
def PT(X:Cx)(e:Expr)(t:TT):Prop:=
 ∀(pins:L1)(s:ŀ)(σ:St)(H:Hp)(Q:Bool->Hp->Prop),Inv X pins σ H s->t σ H Q->wpAny ↑5 X.A (isTrue e X.env (eval e X.env)) (TP X pins σ Q) X.xe s
def PW(X:Cx)(e:Expr)(t:TT):Prop:=
 ∀(a:Sem Ł)(pins:L1)(s:ŀ)(σ:St)(H:Hp)(Q:Bool->Hp->Prop),Inv X pins σ H s->t σ H Q->wpAny ↑5 X.A (isTrue e X.env a) (TP X pins σ Q) X.xe s
def PW.pt(h:PW X e t):PT X e t:=h _
def PA(X:Cx)(es:O0)(t:TA):Prop:=
 ∀(pos:Pos)(pins:L1)(s:ŀ)(σ:St)(H:Hp)(Q:List V->Hp->Prop),Inv X pins σ H s->t σ H Q->wpAny ↑5 X.A (spliced (backTo pos (starEach es X.env))) (AP X pins σ Q) X.xe s
def PS(X:Cx)(st:Stmt)(t:TS):Prop:=
 ∀(pins:L1)(s:ŀ)(σ:St)(H:Hp)(D:Ends),Inv X pins σ H s->t D σ H->wpAny ↑5 X.A (exec st X.env) (SP X pins D) X.xe s
def PSs(X:Cx)(st:List Stmt)(t:TS):Prop:=
 ∀(pins:L1)(s:ŀ)(σ:St)(H:Hp)(D:Ends),Inv X pins σ H s->t D σ H->wpAny ↑5 X.A (execs st X.env) (SP X pins D) X.xe s
def wU(h:wpAny M A t Q E s)(b: ∀a s,Q a s->Q' a s):wpAny M A t Q' E s:=ò h b λ_ _ x=>x
section
variable{X:Cx}
def zAR(i:Nat):TE:=λσ H Q=> ∃v,σ[i]? =some (some v)/\Q v H
def tC(v:V):TE:=λ_ H Q=>Q v H
def uL{pos:Pos}(j:X.N[i]? =some x)(k:La ↑23 x)(hd:↑35=false:=by decide)(b:(x==("__classdict__"))=false:=by decide):PE X (.Name x pos) (zAR i):=by
 intro pins s σ H Q I h;refine h.a λv e h=>?_;refine I.loc.a λm d n=>?_;refine(n i x v j e k).a λu r l=>?_;have a:EP X pins σ Q u s:=(Z3 v H I r h)
 rcases l with⟨hk,hm⟩|⟨hk,c,hc,hcell⟩
 .exact wpAny_Name (wpAny_loadName_local I.ok.kind hk d hm a) hd
 .rcases hk with hk|hk
  .exact wpAny_Name (wpAny_loadName_cell I.ok.kind hk hc hcell a) hd
  .exact wpAny_Name (wpAny_loadName_free I.ok.kind hk hc hcell a b) hd
def Lk:PE X (.Constant (.int i) j pos) (tC (.int i)):=λ_ _ _ H _ I h=>wpAny_Constant_int (Z3 (.int i) H (I.tok _) ⟨_,rfl⟩ h)
def zAS:PE X (.Constant (.bool b) j pos) (tC (.bl b)):=λ_ _ _ H _ I h=>Constant_bool (Z3 (.bl b) H I rfl h)
def Aj:PE X (.Constant (.str x) j pos) (tC (.str x)):=λ_ _ _ H _ I h=>Calls.Constant_str (Z3 (.str x) H (I.tok _) ⟨_,rfl⟩ h)
def Gl(X:Cx)(x:Str):Prop:=X.env.kindOf x=some .globalImplicit
def pE(I:↑1)(a:Gl X x)(b:X.mg x=some u)(h:Q u s)
  (hd:↑35=false:=by decide):wpAny ↑5 X.A (eval (.Name x pos) X.env) Q E s:=
 Calls.Name_function_global I.ok.kind a (Calls.loadGlobal_global (by rw[I.ok.glob];exact I.mod.glob.keeps I.bk) b h) hd
def EH{E:VP}{pos:Pos}(I:↑1)(e:Gl X x)(b:X.mg x=none)(c:bootBuiltins x=some u)(h:Q u s)
  (hn:x≠"__name__":=by decide) (hd:↑35=false:=by decide):wpAny ↑5 X.A (eval (.Name x pos) X.env) Q E s:=by
 refine I.mod.blt.a λi a d=>?_;exact Calls.Name_function_global I.ok.kind e (Calls.loadGlobal_builtin (by rw[I.ok.glob];exact I.mod.glob.keeps I.bk) b (by rw[I.ok.blt];exact a.keeps I.bk) ((d x hn).trans c) h) hd
def Dk{pos:Pos}(d:Gl X x)(b:X.mg x=none)(c:bootBuiltins x=some u)(r:RelV v u)(a:x≠"__name__":=by decide)(hd:↑35=false:=by decide):PE X (.Name x pos) (tC v):=
 λ_ _ _ H _ I h=>EH I d b c (Z3 v H I r h) a hd
variable{rest:O0}
def tAnd(t u:TT):TT:=λσ H Q=>t σ H λc a=>if c=true then u σ a Q else Q false a
def tOr(t u:TT):TT:=λσ H Q=>t σ H λc a=>if c=true then Q true a else u σ a Q
def tNot(t:TT):TT:=λσ H Q=>t σ H λc a=>Q (!c) a
def Ts(b:PT X a tA):PW X (.BoolOp .And [a] pos) tA:=by
 intro d pins s σ H Q I h;refine isTrue_and (wU (b pins s σ H Q I h) λc s1 e=>?_)
 cases c with
 |true=>exact isTrue_and_nil e
 |false=>exact e
def F4(b:PT X a tA):PW X (.BoolOp .Or [a] pos) tA:=by
 intro d pins s σ H Q I h;refine isTrue_or (wU (b pins s σ H Q I h) λc s1 e=>?_)
 cases c with
 |false=>exact isTrue_or_nil e
 |true=>exact e
def F5(k:PT X a tA)(i:PW X (.BoolOp .And (b::rest) pos) tB'):PW X (.BoolOp .And (a::b::rest) pos) (tAnd tA tB'):=by
 intro j pins s σ H Q I h;refine isTrue_and (wU (k pins s σ H _ I h) λc s1 ⟨e,I1,d⟩=>?_)
 cases c with
 |true=>exact i j pins s1 σ e Q I1 d
 |false=>exact⟨e,I1,d⟩
def zAT(k:PT X a tA)(i:PW X (.BoolOp .Or (b::rest) pos) tB'):PW X (.BoolOp .Or (a::b::rest) pos) (tOr tA tB'):=by
 intro j pins s σ H Q I h;refine isTrue_or (wU (k pins s σ H _ I h) λc s1 ⟨e,I1,d⟩=>?_)
 cases c with
 |true=>exact⟨e,I1,d⟩
 |false=>exact i j pins s1 σ e Q I1 d
def zAU(b tb:TE):TE:=λσ H Q=>b σ H λx a=> ∃c,x=.bl c/\if c=true then tb σ a Q else Q (.bl false) a
def tOrV(b tb:TE):TE:=λσ H Q=>b σ H λx a=> ∃c,x=.bl c/\if c=true then Q (.bl true) a else tb σ a Q
def zAV(a:TE):TE:=λσ H Q=>a σ H λx b=> ∃c,x=.bl c/\Q (.bl (!c)) b
def F8(k:PE X a ta)(j:PE X (.BoolOp .And (b::rest) pos) tb):PE X (.BoolOp .And (a::b::rest) pos) (zAU ta tb):=by
 intro pins s σ H Q I h;refine BoolOp_and (wU (k pins s σ H _ I h) λv s1 ⟨x,e,I1,i,d⟩=>?_);obtain⟨c,rfl,d⟩:=d;cases i;refine ý ?_
 cases c with
 |true=>exact j pins s1 σ e Q I1 d
 |false=>exact Z3 (.bl false) e I1 rfl d
def zAW(k:PE X a ta)(j:PE X (.BoolOp .Or (b::rest) pos) tb):PE X (.BoolOp .Or (a::b::rest) pos) (tOrV ta tb):=by
 intro pins s σ H Q I h;refine BoolOp_or (wU (k pins s σ H _ I h) λv s1 ⟨x,e,I1,i,d⟩=>?_);obtain⟨c,rfl,d⟩:=d;cases i;refine ý ?_
 cases c with
 |false=>exact j pins s1 σ e Q I1 d
 |true=>exact Z3 (.bl true) e I1 rfl d
def tIf(t:TT)(b tb:TE):TE:=λσ H Q=>t σ H λc a=>if c=true then b σ a Q else tb σ a Q
def Ll(k:PT X c tA)(m:PE X a ta)(j:PE X b tb):PE X (.IfExp c a b pos) (tIf tA ta tb):=by
 intro pins s σ H Q I h;refine wpAny_IfExp (wU (k pins s σ H _ I h) λd s1 ⟨i,I1,e⟩=>?_)
 cases d with
 |true=>exact m pins s1 σ i Q I1 e
 |false=>exact j pins s1 σ i Q I1 e
end
def SqL(K:P0)(H:Hp)(a:Addr)(xs:List V):Prop:=
 Rd H a (.lst xs)\/
  ∃(o:Obj)(b:B0)(n:Nat),K.lookup a=some o/\o.cls=.type "list"/\o.dict=none/\o.data=.seq b n/\b.size<=sizeLine/\Vals xs b.toList
def SqT(K:P0)(H:Hp)(a:Addr)(xs:List V):Prop:=
 Rd H a (.tup xs)\/
  ∃(o:Obj)(b:B0)(n:Nat),K.lookup a=some o/\o.cls=.type "tuple"/\o.data=.seq b n/\b.size<=sizeLine/\Vals xs b.toList
noncomputable def absV:Ł->Option V
 |.none=>some .non
 |.bool b=>some (.bl b)
 |.int i _=>some (.int i)
 |.str x _=>some (.str x)
 |.bytes b _=>some (.byt b)
 |.float b _=>some (.flt b)
 |.ref a=>some (.ref a)
 |.type n=>some (.ty n)
 |_=>none
theorem RelV.abs(r:RelV x u):absV u=some x:=by
 cases x with
 |non=>cases r;rfl
 |bl _=>cases r;rfl
 |int _=>obtain⟨t,rfl⟩:=r;rfl
 |str _=>obtain⟨t,rfl⟩:=r;rfl
 |byt _=>obtain⟨t,rfl⟩:=r;rfl
 |flt _=>obtain⟨t,rfl⟩:=r;rfl
 |ref _=>cases r;rfl
 |ty _=>cases r;rfl
def RelV.inj(r:RelV x u)(q:RelV y u):x=y:=å (r.abs.symm.trans q.abs)
theorem Vals.inj: ∀{xs ys}{d},Vals xs d->Vals ys d->xs=ys
 |_,_,_,.nil,.nil=>rfl
 |_,_,_,.cons r t,.cons r' t'=>by rw[r.inj r',Vals.inj t t']
section
def SqL.of{K:P0}(h:H a=some (.lst xs)):SqL K H a xs:=.inl (.inl h)
def SqT.of{K:P0}(h:H a=some (.tup xs)):SqT K H a xs:=.inl (.inl h)
theorem Inv.list(I:↑1)(h:SqL X.K H a xs): ∃d:List Ł,Vals xs d/\PlainL s.heap a d.toArray/\↑8<=sizeLine:=by
 rcases h with h|⟨o,d,n,hk,hc,hd,hs,hz,r⟩
 .obtain⟨z,d,n,r,e⟩:=h.ok I.hok;exact Z1 d r (ZB _ n e rfl rfl rfl) z
 .refine(Z1 _ r (ZB o n (I.kIn a o hk) hc hd (by simpa using hs)) ?_);have e:=r.length;simp only[ü]at e
  lia
theorem Inv.tuple(I:↑1)(h:SqT X.K H a xs): ∃d:List Ł,Vals xs d/\IsTup s.heap a d.toArray/\↑8<=sizeLine:=by
 rcases h with h|⟨o,d,n,hk,hc,hs,hz,r⟩
 .obtain⟨z,d,r,p⟩:=h.ok I.hok;exact Z1 d r p z
 .refine(Z1 _ r ⟨o,I.kIn a o hk,hc,n,by simpa using hs⟩ ?_);have e:=r.length;simp only[ü]at e
  lia
def Inv.list_inj(I:↑1)(h:SqL X.K H a xs)(h':SqL X.K H a ys):xs=ys:=by
 refine(I.list h).c λj r g _=>?_;obtain ⟨o,n,e,_,_,d⟩:=g;refine(I.list h').c λb k q _=>?_;obtain ⟨p,m,i,_,_,c⟩:=q;rw[e]at i;cases i;rw[d]at c;injection c with d1 _
 have:=by simpa using congrArg Array.toList d1
 subst this;exact r.inj k
def Inv.tuple_inj(I:↑1)(h:SqT X.K H a xs)(h':SqT X.K H a ys):xs=ys:=by
 refine(I.tuple h).c λj r g _=>?_;obtain ⟨o,e,_,n,d⟩:=g;refine(I.tuple h').c λb k q _=>?_;obtain ⟨p,i,_,m,c⟩:=q;rw[e]at i;cases i;rw[d]at c;injection c with d1 _
 have:=by simpa using congrArg Array.toList d1
 subst this;exact r.inj k
end
abbrev Cx.wish(X:Cx)(E:VP):Cx:={X with xe:=E}
abbrev Cx.nox(X:Cx):Cx:=X.wish λ_ _=>False
def Cx.Ok.wish{X:Cx}(ok:X.Ok)(E):(X.wish E).Ok:=
 ⟨ok.mod,ok.kind,ok.glob,ok.blt,ok.above,ok.inj,ok.has,ok.cab,ok.hd,ok.frames,ok.stk,ok.exf,ok.bs,ok.bsz,ok.noex,ok.exfs,ok.funs,ok.frf⟩
def Cx.Ok.unwish{X:Cx}(ok:(X.wish E).Ok):X.Ok:=
 ⟨ok.mod,ok.kind,ok.glob,ok.blt,ok.above,ok.inj,ok.has,ok.cab,ok.hd,ok.frames,ok.stk,ok.exf,ok.bs,ok.bsz,ok.noex,ok.exfs,ok.funs,ok.frf⟩
section
variable{pins:L1}{σ:St}{H:Hp}{s:ŀ}
def Inv.wish(I:↑1)(E):Inv (X.wish E) pins σ H s:=⟨I.ok.wish E,I.os,I.bare,I.base,I.loc,I.cell,I.free,I.freeC,I.pin,I.hok,I.len⟩
def Inv.unwish(I:Inv (X.wish E) pins σ H s):Inv X pins σ H s:=⟨I.ok.unwish,I.os,I.bare,I.base,I.loc,I.cell,I.free,I.freeC,I.pin,I.hok,I.len⟩
def SP.unwish(h:SP (X.wish E) pins D f s'):SP X pins D f s':=by
 cases f with
 |next=>obtain⟨a,H',I,q⟩:=h;exact Z0 a H' I.unwish q
 |brk=>obtain⟨a,H',I,q⟩:=h;exact Z0 a H' I.unwish q
 |cont=>refine h.d λa H' I q=>?_;exact Z0 a H' I.unwish q
 |ret u=>refine h.l λv a H' b=>b.e λI r q=>?_;exact Y3 v a H' I.unwish r q
def PSs.nox{st:List Stmt}(h:PSs X.nox st t):PSs X st t:=λpins s σ H D I hw=>
 ò (h pins s σ H D (I.wish _) hw) (λ_ _ q=>q.unwish) λ_ _ z=>False.elim z
end
section
variable{st:Stmt}{rest:List Stmt}
def zAX:TS:=λD σ H=>D.nx σ H
def tSeq(t u:TS):TS:=λD σ H=>t {D with nx:=u D} σ H
def Tu(a:PS X st t):PSs X [st] t:=by
 intro pins s σ H D I h;refine Ğ (wU (a pins s σ H D I h) λf s1 q=>?_)
 cases f with
 |next=>exact ĕ q
 |ret v=>exact q
 |brk=>exact q
 |cont=>exact q
def Inv.quiet(I:↑1):interactive X.env=false:=by simp[interactive,I.ok.kind]
def zAY(a:TE):TS:=λD σ H=>a σ H λ_ b=>D.nx σ b
def tRet(a:TE):TS:=λD σ H=>a σ H D.rt
def tIfS(c:TT)(t u:TS):TS:=λD σ H=>c σ H λb a=>if b=true then t D σ a else u D σ a
def zAZ(k:PT X c tc)(m:PSs X a t)(j:PSs X b u):PS X (.If c a b pos) (tIfS tc t u):=by
 intro pins s σ H D I h;refine wpAny_If (wU (k pins s σ H _ I h) λd s1 ⟨i,I1,e⟩=>?_)
 cases d with
 |true=>exact m pins s1 σ i D I1 e
 |false=>exact j pins s1 σ i D I1 e
end
abbrev TG:=V->St->Hp->(St->Hp->Prop)->Prop
abbrev J8:=List V->St->Hp->(St->Hp->Prop)->Prop
def PG(X:Cx)(a:Expr)(t:TG):Prop:=
 ∀(pins:L1)(s:ŀ)(σ:St)(H:Hp)(v:V)(u:Ł)(Q:St->Hp->Prop),Inv X pins σ H s->RelV v u->t v σ H Q->
  wpAny ↑5 X.A (assign a X.env u) (λ_ c=> ∃b H',Inv X pins b H' c/\Q b H') X.xe s
def zBA(X:Cx)(ts:O0)(t:J8):Prop:=
 ∀(pins:L1)(s:ŀ)(σ:St)(H:Hp)(vs:List V)(b:A0)(Q:St->Hp->Prop),Inv X pins σ H s->Vals vs b->t vs σ H Q->
  wpAny ↑5 X.A (assignInOrder ((assignEach ts X.env).map (·.2)) b) (λ_ c=> ∃a H',Inv X pins a H' c/\Q a H') X.xe s
abbrev TSet:=V->V->V->Hp->(Hp->Prop)->Prop
def J9(X:Cx)(t:TSet):Prop:=
 ∀(pins:L1)(s:ŀ)(σ:St)(H:Hp)(o i v:V)(a b u:Ł)(Q:Hp->Prop),Inv X pins σ H s->RelV o a->RelV i b->RelV v u->t o i v H Q->
  wpAny ↑5 X.A (setItem a b u) (λ_ c=> ∃H',Inv X pins σ H' c/\Q H') X.xe s
section
variable{pos:Pos}
def Ln(i:Nat):TG:=λv σ H Q=>Q (σ.set i (some v)) H
def Dl(b:X.N.Nodup)(hi:X.N[i]? =some x)(c:Loc ↑23 x)(d:Q0 X x:=by first |exact .inl rfl|exact .inr rfl|assumption):PG X (.Name x pos) (Ln i):=by intro pins s σ H v u Q I r h;exact wpAny_assign_Name (FA I b hi c r (λe a=>(Z0 _ H a h)) d)
def gNil:J8:=λa σ H Q=>a=[]/\Q σ H
def zBB(t:TG)(u:J8):J8:=λb σ H Q=> ∃v r,b=v::r/\t v σ H λa H'=>u r a H' Q
def Lo(b:PG X e t)(c:zBA X es u)
  (hs:(assignEach (e::es) X.env).map (·.2)=assign e X.env::(assignEach es X.env).map (·.2):=by rfl):zBA X (e::es) (zBB t u):=by
 intro pins s σ H k m Q I r h;obtain⟨v,n,d,h⟩:=h;subst d
 cases r with
 |cons r rr=>
  rw[hs];refine assignInOrder_cons (wU (b pins s σ H _ _ _ I r h) λ_ s1 ⟨a,j,I1,i⟩=>?_);exact c pins s1 a j _ _ Q I1 rr i
def gTup(K:P0)(n:Nat)(t:J8):TG:=λv σ H Q=> ∃a xs,v=.ref a/\SqT K H a xs/\↑8=n/\t xs σ H Q
def K1{k:Nat}(q:X.calm=true)(h:zBA X es t)
  (hn:(assignEach es X.env).length=n:=by rfl) (hst:(assignEach es X.env).findIdx? (·.1)=none:=by rfl):PG X (.Tuple es k pos) (gTup X.K n t):=by
 intro pins s σ H v u Q I r hw;obtain⟨a,xs,m,d,p,hw⟩:=hw;subst m;cases r;refine(I.tuple d).c λj c w y=>?_;refine assign_Tuple_tuple (I.ok.hd q) w (by simp[hn, <-p,c.length]) hst λh' i=>?_;exact h pins _ σ H xs _ Q (I.kept λb o e=>i b o (ê (ã e)) e) (by simpa using c) hw
def gSub(c d:TE)(t:TSet):TG:=λv σ H Q=>c σ H λo e=>d σ e λi a=>t o i v a λb=>Q σ b
def Lp(ho:PE X o to)(hi:PE X i ti)(hs:J9 X t)
  (ha: ∀v,assign (.Subscript o i pos) X.env v=(do
   let d <-holding [v] (eval o X.env);let m <-holding [v,d] (eval i X.env)
   standAt pos
   holding [v,d,m] (setItem d m v)
   release [v,d,m] []):=by intro _;rfl):PG X (.Subscript o i pos) (gSub to ti t):=by
 intro pins s σ H v u Q I r h;refine wB (ö (wU (ho pins s σ H _ I h) λd s1 ⟨x,a,I1,e,z⟩=>?_));refine wB (ö (wU (hi pins s1 σ a _ I1 z) λm q ⟨y,c,j,b,p⟩=>?_));refine wB (đ (wB (ö (wU (hs pins q σ c x y v d m u _ j e b r p) λ_ A ⟨n,k,w⟩=>?_))));exact wpAny_release (Z0 (σ) n k w)
def K2(a:TE)(g:TG):TS:=λD σ H=>a σ H λx b=>g x σ b D.nx
noncomputable def K4(a:PE X e te)(c:PG X tg g)(hs:swapsWithSole [tg] e pos.line X.env=pure false:=by rfl)(hw:swappedStores [tg] e X.env=pure none:=by rfl)
  (h1:(assignEach [tg] X.env).map (·.2)=[assign tg X.env]:=by rfl):PS X (.Assign [tg] e pos) (K2 te g):=by
 intro pins s σ H D I h;refine wpAny_Assign_stores (wU (a pins s σ H _ I h) λv s1 ⟨x,i,I1,b,d⟩=>?_) hs hw;rw[h1];exact wU (c pins s1 σ i x v _ I1 b d) λ_ j q=>q
def K5(b:X.N.Nodup)(hi:X.N[i]? =some x)(c:Loc ↑23 x)(a:PE X e te)(hs:swapsWith e (some (.Name x pos')) pos.line X.env=pure false:=by rfl)(j:Q0 X x:=by first |exact .inl rfl|exact .inr rfl|assumption):
  PS X (.Assign [.Name x pos'] e pos) (K2 te (Ln i)):=by
 intro pins s σ H D I h;refine wpAny_Assign_Name (wU (a pins s σ H _ I h) λv s1 ⟨y,n,I1,d,m⟩=>?_) hs;exact FA I1 b hi c d (λo k=>(Z0 _ n k m)) j
end
section
def K6(c:TT)(tb:TS):TS:=λD σ H=> ∃W:Nat->St->Hp->Prop,(∃m,W m σ H)/\ ∀m σ H,W m σ H->
 c σ H λb d=>if b=true then∃N:St->Hp->Prop,(∀a H',N a H'-> ∃e,e<m/\W e a H')/\tb {D with nx:=N,ct:=N,bk:=D.nx} σ d else D.nx σ d
def Lq(B:PassesOwn ↑5 X.A X.env X.xe)(K:PT X c tc)(J:PSs X body tb):PS X (.While c body [] pos) (K6 tc tb):=by
 intro pins s σ H D I h;refine h.a λW g e=>?_;obtain ⟨F,L⟩:=g;refine wpAny_While (codeAny_whileLoop (λn M=> ∃i H',Inv X pins i H' M/\W n i H') ?_ F (Z0 (σ) H I L));rintro n s1 ⟨d,E,I1,G⟩;refine Ģ B (wU (K pins s1 d E _ I1 (e n d E G)) λb O ⟨y,C,k⟩=>?_)
 cases b with
 |true=>
  refine k.a λN z k=>?_;refine Ģ B (wU (J pins O d y _ C k) λf P m=>?_)
  cases f with
  |next=>
   obtain⟨a,j,o,r⟩:=m;obtain⟨p,q,u⟩:=z a j r;exact⟨p,q,a,j,o,u⟩
  |cont=>
   obtain⟨a,j,o,r⟩:=m;obtain⟨p,q,u⟩:=z a j r;exact⟨p,q,a,j,o,u⟩
  |brk=>exact m
  |ret v=>exact m
 |false=>
  exact ĕ (Z0 d y C k)
end
structure It where
 go:Nat->Hp->Prop
 yld:Nat->Hp->V->Hp->Prop
 stop:Nat->Hp->Prop
def EI(X:Cx)(pins:L1)(H:Hp)(b:Addr):Prop:=
 H b=none/\b≠X.env.locals/\b∉X.fs/\(b∈X.ex\/X.s₀.heap.objs.size<=b)/\(∀x c,X.env.cells.lookup x=some c->c≠b)/\ ∀p∈X.pn++pins,p.1≠b
def Inv.fpOk{b:Addr}(I:↑1)(a:↑3<=b)(d:H' b=none):EI X pins H' b:=by
 refine⟨d,ċ (é I.lt a),I.nofs a,.inr (í I.sz a),λx c e z=>?_,λp h z=>?_⟩
 .obtain⟨v,q⟩:=I.cell x c e;exact absurd (é q.lt (by rw[z];exact a)) (ī _)
 .exact absurd (é (ã (I.pin p h).1) (by rw[z];exact a)) (ī _)
abbrev K7(X:Cx):Prop:=X.calm=true
structure TurnC(C:Cx->Prop)(P:ł)(w:World)(K:P0)(tg:Expr)(J:It)(fp:B9)(it:Addr)(tn:Nat->Heap->Prop):Prop where
 mem:it∈fp
 obj: ∀i h,tn i h-> ∀b∈fp, ∃o,h.get? b=some o/\ ∀v,o.data≠.cell v
 keep: ∀i h h',tn i h->(∀b∈fp, ∀o,h.get? b=some o->h'.get? b=some o)->tn i h'
 item: ∀(X:Cx),X.prog=P->X.w=w->X.K=K->C X-> ∀(i:Nat)(pins:L1)(s:ŀ)(σ:St)(H:Hp)(E:VP),Inv X pins σ H s->(∀b∈fp,EI X pins H b)->tn i s.heap->J.go i H->
  wpAny (model P w) X.A (pyNext (.ref it)) (λr s1=> ∃u,r=some u/\
   wpAny (model P w) X.A (letOwnedTupleGo tg (.ref it) u) (λ_ s2=> ∃x H',Inv X pins σ H' s2/\RelV x u/\J.yld i H x H'/\tn (i+1) s2.heap/\ ∀b∈fp,H' b=none) E s1) E s
 done: ∀(X:Cx),X.prog=P->X.w=w->X.K=K->C X-> ∀(i:Nat)(pins:L1)(s:ŀ)(σ:St)(H:Hp)(E:VP),Inv X pins σ H s->(∀b∈fp,EI X pins H b)->tn i s.heap->J.stop i H->
  wpAny (model P w) X.A (pyNext (.ref it)) (λr s1=>r=none/\Inv X pins σ H s1) E s
 self: ∀(A:Around)(i:Nat)(s:ŀ)(Q:VP)(E:VP),tn i s.heap->Q (.ref it) s->wpAny (model P w) A (pyIter (.ref it)) Q E s
abbrev Turn:=TurnC K7
abbrev TI:=St->Hp->(It->Hp->Prop)->Prop
def K8(C:Cx->Prop)(X:Cx)(pins:L1)(σ:St)(tg:Expr)(R:It->Hp->Prop)(a:Ł)(c:ŀ):Prop:=
 ∃(e:Addr)(fp:B9)(d:Nat->Heap->Prop)(J:It)(H':Hp),a=.ref e/\Inv X pins σ H' c/\TurnC C X.prog X.w X.K tg J fp e d/\d 0 c.heap/\(∀b∈fp,EI X pins H' b)/\R J H'
abbrev PIE:=K8 K7
def Tx(C:Cx->Prop)(X:Cx)(tg iter:Expr)(a:TI):Prop:=
 ∀(pins:L1)(s:ŀ)(σ:St)(H:Hp)(R:It->Hp->Prop),Inv X pins σ H s->a σ H R->
  wpAny ↑5 X.A (eval iter X.env) (λv s1=>wpAny ↑5 X.A (pyIter v) (K8 C X pins σ tg R) X.xe s1) X.xe s
abbrev PI:=Tx K7
def PP(ho:s.heap.get? it=some o)(a:o.cls=.type n)(hd:o.data=.fields vs)
  (hn:["enumerate","zip","dict_itemiterator","dict_reverseitemiterator","odict_iterator","itertools.zip_longest","itertools.pairwise"].contains n=false) (hQ:Q () s):wpAny M A (letOwnedTupleGo tg (.ref it) u) Q E s:=by
 cases tg<;>first
  |exact wP hQ
  |(cases u<;>first
    |exact wP hQ
    |(refine wB (wpAny_load ho ?_)
      rw[a,hd];show wpAny M A (if _=true then _ else _) Q E s;rw[iN0 (by intro h;rw[hn]at h;cases h)];exact wP hQ))
noncomputable def zED(K:P0)(a:Addr):It:=
 ⟨λi H=> ∃xs x,SqL K H a xs/\xs[i]? =some x,λi H x H'=>H'=H/\ ∀xs,SqL K H a xs->xs[i]? =some x,λi H=> ∃xs,SqL K H a xs/\↑8<=i⟩
noncomputable def zEE(K:P0)(a:Addr):It:=
 ⟨λi H=> ∃xs x,SqT K H a xs/\xs[i]? =some x,λi H x H'=>H'=H/\ ∀xs,SqT K H a xs->xs[i]? =some x,λi H=> ∃xs,SqT K H a xs/\↑8<=i⟩
noncomputable def Zk(lo:Int)(n:Nat):It:=⟨λi _=>i<n,λi H x H'=>H'=H/\x=.int (lo+i),λi _=>n<=i⟩
theorem PV{K:P0}(a it):Turn P w K tg (zED K a) [it] it (λi h=>h.IsListIter it a i) where
 mem:=by simp
 obj:=λi h st b hb=>by
  have e:=by simpa using hb
  subst e;refine st.c λo e c d=>?_;exact Z8 o e (λv z=>by rw[d]at z;cases z)
 keep:=λi h h' st k=>st.at λo e=>k it (by simp) o e
 item:=by intro X hP hw hK hc i pins s σ H E I hf st hg;subst hP hw hK;refine hg.d λxs x hq hx=>?_;refine(I.list hq).c λits rv p hz=>?_;refine(rv.get hx).a λu hu ru=>?_;refine(hf it (by simp)).f λf0 f1 f2 f3 f4 f5=>?_;refine wpAny_pyNext_list_item st p.isList (by simpa using hu) λh' st' sb=>?_;refine(id st').c λo e c d=>?_;exact Z8 u rfl (PP e c d ↑4 (YD x H (I.turned (λb o hb e=>(sb.2 b hb).trans e) f0 f1 f3 f4 f5) ru ⟨rfl,λys hy=>by rw[I.list_inj hy hq];exact hx⟩ st' (λb hb=>(hf b hb).1)))
 done:=by intro X hP hw hK hc i pins s σ H E I hf st hg;subst hP hw hK;refine hg.a λxs hq hx=>?_;refine(I.list hq).c λits rv p hz=>?_;refine(hf it (by simp)).f λf0 f1 f2 f3 f4 f5=>?_;have hl:=rv.length;exact wpAny_pyNext_list_end (I.ok.hd hc) st p.isList (by simp;lia) λh' eb=>⟨rfl,I.turned (λb o hb e=>eb b o hb e) f0 f1 f3 f4 f5⟩
 self:=λ_ _ _ _ _ st h=>wpAny_pyIter_listiter st h
theorem KQ{K:P0}(a it):Turn P w K tg (zEE K a) [it] it (λi h=>h.IsTupleIter it a i) where
 mem:=by simp
 obj:=λi h st b hb=>by
  have e:=by simpa using hb
  subst e;refine st.c λo e c d=>?_;exact Z8 o e (λv z=>by rw[d]at z;cases z)
 keep:=λi h h' st k=>st.at λo e=>k it (by simp) o e
 item:=by intro X hP hw hK hc i pins s σ H E I hf st hg;subst hP hw hK;refine hg.d λxs x hq hx=>?_;refine(I.tuple hq).c λits rv p hz=>?_;refine(rv.get hx).a λu hu ru=>?_;refine(hf it (by simp)).f λf0 f1 f2 f3 f4 f5=>?_;refine wpAny_pyNext_tuple_item st p (by simpa using hu) λh' st' sb=>?_;refine(id st').c λo e c d=>?_;exact Z8 u rfl (PP e c d ↑4 (YD x H (I.turned (λb o hb e=>(sb.2 b hb).trans e) f0 f1 f3 f4 f5) ru ⟨rfl,λys hy=>by rw[I.tuple_inj hy hq];exact hx⟩ st' (λb hb=>(hf b hb).1)))
 done:=by intro X hP hw hK hc i pins s σ H E I hf st hg;subst hP hw hK;refine hg.a λxs hq hx=>?_;refine(I.tuple hq).c λits rv p hz=>?_;refine(hf it (by simp)).f λf0 f1 f2 f3 f4 f5=>?_;have hl:=rv.length;exact wpAny_pyNext_tuple_end (I.ok.hd hc) st p (by simp;lia) λh' eb=>⟨rfl,I.turned (λb o hb e=>eb b o hb e) f0 f1 f3 f4 f5⟩
 self:=λ_ _ _ _ _ st h=>wpAny_pyIter_tupleiter st h
theorem KR{K:P0}(it)(lo)(n):Turn P w K tg (Zk lo n) [it] it (λi h=>IsRangeIter h it (lo+ i  * 1) ( n  -  i ) 1) where
 mem:=by simp
 obj:=λi h st b hb=>by
  have e:=by simpa using hb
  subst e;exact Z8 _ st (λv z=>by cases z)
 keep:=λi h h' st k=>k it (by simp) _ st
 item:=by intro X hP hw hK hc i pins s σ H E I hf st hg;subst hP hw hK;refine(hf it (by simp)).f λf0 f1 f2 f3 f4 f5=>?_;refine(Walks.range (prog:=X.prog) (w:=X.w) (I.ok.hd hc) it lo 1 n).item i s _ _ hg st λv h' tk hv st' kk=>?_;obtain⟨t,rfl⟩:=hv;refine Z8 _ rfl (PP st' rfl rfl ↑4 (YD (.int _) H (I.turned (λb o hb e=>kk b o (by simpa using hb) e) f0 f1 f3 f4 f5) ⟨t,?_⟩ ⟨rfl,rfl⟩ st' (λb hb=>(hf b hb).1)));rw[Int.mul_one]
 done:=by intro X hP hw hK hc i pins s σ H E I hf st hg;refine(hf it (by simp)).f λf0 f1 f2 f3 f4 f5=>?_;exact wpAny_pyNext_range_end (I.ok.hd hc) st (by have:n<=i:=hg;lia) λh' eb=>⟨rfl,I.turned (λb o hb e=>eb b o hb e) f0 f1 f3 f4 f5⟩
 self:=λ_ _ _ _ _ st h=>wpAny_pyIter_rangeiter st h
section
def zBC(K:P0)(c:TE):TI:=λσ H R=>c σ H λx b=> ∃a,x=.ref a/\(∃xs,SqL K b a xs)/\R (zED K a) b
def iTup(K:P0)(c:TE):TI:=λσ H R=>c σ H λx b=> ∃a,x=.ref a/\(∃xs,SqT K b a xs)/\R (zEE K a) b
def Tz(c:PE X l tl):PI X tg l (zBC X.K tl):=by
 intro pins s σ H R I h;refine wU (c pins s σ H _ I h) λv s1 ⟨x,n,I1,j,m⟩=>?_;refine m.c λa e g q=>?_;obtain ⟨xs,d⟩:=g;subst e;cases j;refine(I1.list d).c λk u p r=>?_;refine Ę p.isList ?_;refine Yt _ _ _ _ n rfl (I1.kept λb o e=>hP0 _ e) (PV a _) (Z1 _ (ä _ rfl) rfl rfl) (λb i=>?_) q;have e:=by simpa using i
 subst e;exact I1.fpOk (à _) (I1.hok.fresh (à _))
def K9(c:PE X l tl):PI X tg l (iTup X.K tl):=by
 intro pins s σ H R I h;refine wU (c pins s σ H _ I h) λv s1 ⟨x,n,I1,j,m⟩=>?_;refine m.c λa e g q=>?_;obtain ⟨xs,d⟩:=g;subst e;cases j;refine(I1.tuple d).c λk u p r=>?_;refine wpAny_pyIter_tuple p ?_;refine Yt _ _ _ _ n rfl (I1.kept λb o e=>hP0 _ e) (KQ a _) (Z1 _ (ä _ rfl) rfl rfl) (λb i=>?_) q;have e:=by simpa using i
 subst e;exact I1.fpOk (à _) (I1.hok.fresh (à _))
theorem Lr{lo:Int}(a: ∀d:Addr,TurnC C X.prog X.w X.K tg (Zk lo (hi - lo).toNat) [d] d (λi h=>IsRangeIter h d (lo+ i  * 1) ((((hi - lo).toNat:Nat)) -  i ) 1))(I:↑1)(c: -(2 ^ 62)<=lo)(r:lo<2 ^ 62)(j: -(2 ^ 62)<=hi)(p:hi<2 ^ 62)
  (q:R (Zk lo (hi - lo).toNat) H):wpAny ↑5 X.A (pyIter (.ref ↑3)) (K8 C X pins σ tg R) E {s with heap:=s.heap.push {cls:=.type "range",data:=.fields #[.int lo t,.int hi u,.int 1 v]},toks:=tk}:=by
 refine wpAny_pyIter_range (IsRange.new ..) (small_one c r j p) ?_;have I1:Inv X pins σ H {s with heap:=s.heap.push {cls:=.type "range",data:=.fields #[.int lo t,.int hi u,.int 1 v]},toks:=tk}:=I.kept λb o e=>hP0 _ e
 refine Yt _ _ _ _ H rfl (I1.kept λb o e=>hP0 _ e) (a _) ?_ (λb k=>?_) q
 .have m:lo+((0:Nat):Int) * 1=lo:=by simp
  have n:(((hi - lo).toNat:Nat):Int) - ((0:Nat):Int)=Builtin.Range.rangeSize lo hi 1:=by rw[rangeSize_one];split<;>lia
  show IsRangeIter _ _ _ _ 1;rw[m,n];exact ä _ rfl
 .have e:b=(s.heap.push {cls:=.type "range",data:=.fields #[.int lo t,.int hi u,.int 1 v]}).objs.size:=by simpa using k
  subst e;exact I1.fpOk (à _) (I1.hok.fresh (à _))
def zBD(a:TA):TI:=λσ H R=>a σ H λc b=> ∃j:Int,c=[.int j]/\ -(2 ^ 62)<=j/\j<2 ^ 62/\R (Zk 0 j.toNat) b
theorem Hq(m: ∀ d  n ,TurnC C X.prog X.w X.K tg (Zk 0 n) [d] d (λi h=>IsRangeIter h d (0+ i  * 1) ( n  -  i ) 1))(k:Gl X "range")(u:X.mg "range"=none)(v:PA X [a] ta)(hs:starEach [a] X.env=[(false,eval a X.env)]):Tx C X tg (.Call (.Name "range" p) [a] [] pos) (zBD ta):=by
 intro pins s σ H R I h;refine Call_ (EH I k u boot_range (Ď (wU (v pos pins s σ H _ I h) λz s1 ⟨y,A,I1,c,b⟩=>?_) hs rfl));obtain⟨j,e,b,o,q⟩:=b;subst e
 cases c with
 |cons r rr=>
  cases rr;obtain⟨t,rfl⟩:=r;exact call_range_1 (Lr (λd=>m d _) I1 #[0] #[0] b o (by simpa using q))
def tFor(e:TI)(g:TG)(tb:TS):TS:=λD σ H=>e σ H λJ h=> ∃W:Nat->Nat->St->Hp->Prop,(∃m,W 0 m σ h)/\ ∀i m σ H,W i m σ H->
 (J.stop i H/\D.nx σ H)\/(J.go i H/\ ∃N:St->Hp->Prop,(∀a H',N a H'-> ∃c,c<m/\W (i+1) c a H')/\ ∀x H',J.yld i H x H'->g x σ H' λb d=>tb {D with nx:=N,ct:=N,bk:=D.nx} b d)
noncomputable def KS(fp:B9)(h:Heap):List (Addr×Obj):=fp.filterMap λb=>(h.get? b).map λo=>(b,o)
def EK(a:b∈fp)(e:h.get? b=some o):(b,o)∈KS fp h:=mem_filterMap.mpr ⟨b,a,by rw[e];rfl⟩
def Hr(d:p∈KS fp h):p.1∈fp/\h.get? p.1=some p.2:=by
 refine(mem_filterMap.mp d).a λb a e=>?_
 cases q:h.get? b with
 |none=>rw[q]at e;cases e
 |some o=>
  rw[q]at e;have c:_=p:=å e;subst c;exact⟨a,q⟩
def Inv.pinned(I:↑1)(j: ∀b∈fp,EI X pins H b)(ho: ∀b∈fp, ∃o,s.heap.get? b=some o/\ ∀v,o.data≠.cell v):Inv X (pins++KS fp s.heap) σ H s:=
 I.pins_of λp k=>(á.mp k).elim (λz=>I.pin p (ð _ z)) λz=>by obtain⟨a,e⟩:=Hr z;refine(j p.1 a).k λh i m _=>?_;refine(ho p.1 a).a λo c d=>?_;rw[e]at c;cases c;exact⟨e,h,i,m,d⟩
def Inv.unpinned(I:Inv X (pins++pl) σ H s):Inv X pins σ H s:=I.pins_of λp a=>I.pin p (ð _ (õ _ a))
def L3(K:PassesOwn ↑5 X.A X.env X.xe)(Z:X.calm=true)(hi:PI X tg iter wi)(hg:PG X tg g)(k:PSs X body tb)
  (hs: ∀x,foldedSetIterable iter X.env x=pure x:=by intro _;rfl):PS X (.For tg iter body [] pos) (tFor wi g tb):=by
 intro pins s σ H D I h;refine wpAny_For (wU (hi pins s σ H _ I h) λv s1 h1=>wU h1 λaa s2 h2=>?_) hs;obtain⟨it,fp,tn,J,H2,e,I2,T,S,f2,W,⟨m0,w0⟩,C⟩:=h2;subst e;have y: ∀{H':Hp},(∀b∈fp,H' b=none)-> ∀b∈fp,EI X pins H' b:=λhn b k=>⟨hn b k,(f2 b k).2⟩
 refine codeAny_forLoop_any (λn s'=> ∃i j H',Inv X pins j H' s'/\tn i s'.heap/\(∀b∈fp,H' b=none)/\W i n j H') ?_ m0 (ZY 0 (σ) H2 I2 S (λb k=>(f2 b k).1) w0);rintro n U ⟨i,c,L,Y,G,E,w3⟩;rcases C i n c L w3 with⟨stop,qn⟩|⟨go,N,hN,step⟩
 .refine Ģ K (wU (T.done X rfl rfl rfl Z i pins U c L X.xe Y (y E) G stop) λr s4 ⟨M,I4⟩=>?_);subst M;exact ĕ (Z0 c L I4 qn)
 .refine Ģ K (wU (T.item X rfl rfl rfl Z i pins U c L X.xe Y (y E) G go) λr s4 ⟨u,M,h4⟩=>?_);subst M;refine Ģ K (wU h4 λ_ s5 ⟨x,H5,I5,r5,y5,B,Q⟩=>?_);refine Ģ K (wU (hg _ s5 c H5 x u _ (I5.pinned (y Q) (T.obj _ _ B)) r5 (step x H5 y5)) λ_ s6 ⟨P,H6,I6,q6⟩=>?_);refine Ģ K (wU (k _ s6 P H6 _ I6 q6) λf O z=>?_);have p: ∀{a:St}{H7:Hp},Inv X _ a H7 O->N a H7-> ∃m,m<n/\ ∃i j H',Inv X pins j H' O/\tn i O.heap/\(∀b∈fp,H' b=none)/\W i m j H':=λ{a H7} q F=>by refine(hN a H7 F).a λm' hm w7=>?_;refine⟨m',hm,_,a,H7,q.unpinned,T.keep _ _ _ B λb k o e=>(q.pin _ (ð _ (ð _ (EK k e)))).1,λb k=>?_,w7⟩;refine(T.obj _ _ B b k).a λo e d=>?_;exact(q.pin _ (ð _ (ð _ (EK k e)))).2.1
  cases f with
  |next=>refine z.d λa H7 q F=>?_;exact p q F
  |cont=>refine z.d λa H7 q F=>?_;exact p q F
  |brk=>refine z.d λa H7 q z=>?_;exact Z0 a H7 q.unpinned z
  |ret v=>refine z.l λx7 a H7 R=>R.e λq r7 z=>?_;exact Y3 x7 a H7 q.unpinned r7 z
end
abbrev R2:=V->V->Hp->VK->Prop
def OpR(X:Cx)(f:Ł->Ł->Sem Ł)(r:R2):Prop:=
 ∀(pins:L1)(s:ŀ)(σ:St)(H:Hp)(x y:V)(v u:Ł)(Q:VK),Inv X pins σ H s->RelV x v->RelV y u->r x y H Q->
  wpAny ↑5 X.A (f v u) (EP X pins σ Q) X.xe s
def UnR(X:Cx)(f:Ł->Sem Ł)(r:V->Hp->VK->Prop):Prop:=
 ∀(pins:L1)(s:ŀ)(σ:St)(H:Hp)(x:V)(v:Ł)(Q:VK),Inv X pins σ H s->RelV x v->r x H Q->
  wpAny ↑5 X.A (f v) (EP X pins σ Q) X.xe s
def CallR(X:Cx)(f:Ł)(r:List V->Hp->VK->Prop):Prop:=
 ∀(pins:L1)(s:ŀ)(σ:St)(H:Hp)(xs:List V)(a:A0)(Q:VK),Inv X pins σ H s->Vals xs a->r xs H Q->
  wpAny ↑5 X.A (call f a) (EP X pins σ Q) X.xe s
def TruR(X:Cx)(r:V->Hp->(Bool->Hp->Prop)->Prop):Prop:=
 ∀(pins:L1)(s:ŀ)(σ:St)(H:Hp)(x:V)(v:Ł)(Q:Bool->Hp->Prop),Inv X pins σ H s->RelV x v->r x H Q->
  wpAny ↑5 X.A (truthy v) (TP X pins σ Q) X.xe s
def zEF(r:R2)(b tb:TE):TE:=λσ H Q=>b σ H λx c=>tb σ c λy a=>r x y a Q
def tUn(r:V->Hp->VK->Prop)(a:TE):TE:=λσ H Q=>a σ H λx b=>r x b Q
def rI(C:Int->Int->Prop)(g:Int->Int->V):R2:=λx y H Q=> ∃i j,x=.int i/\y=.int j/\C i j/\Q (g i j) H
def Ua(g:Int->Int->V):R2:=λx y H Q=> ∃i j,x=.int i/\y=.int j/\Q (g i j) H
def rU(g:Int->V):V->Hp->VK->Prop:=λx H Q=> ∃i,x=.int i/\Q (g i) H
section
def L4(o:PE X a ta)(e:PE X b tb){R:V->V->Hp->Prop}(I:↑1)
  (h:ta σ H λx B=>tb σ B λy d=>R x y d)  {f:Ł->Ł->Sem Ł}
  (hf: ∀v u z x y d,Inv X pins σ d z->RelV x v->RelV y u->R x y d->wpAny ↑5 X.A (f v u) Q X.xe z):
  wpAny ↑5 X.A (eval a X.env) (λv m=>wpAny ↑5 X.A (eval b X.env) (λu q=>wpAny ↑5 X.A (f v u) Q X.xe q) X.xe m) X.xe s:=by
 refine wU (o pins s σ H _ I h) λv s1 ⟨x,B,I1,i,n⟩=>?_;refine wU (e pins s1 σ B _ I1 n) λu z ⟨y,d,j,c,k⟩=>?_;exact hf v u z x y d j i c k
def zBF(ho:UnR X (unaryOp op) r)(d:PE X a ta):PE X (.UnaryOp op a pos) (tUn r ta):=by intro pins s σ H Q I h;exact UnaryOp_ (wU (d pins s σ H _ I h) λv s1 ⟨x,e,I1,b,c⟩=>ho pins s1 σ e x v Q I1 b c)
def zEG{g:Int->Int->Int}
  (rule: ∀ i j  t u  s  Q  E ,C i j->Q (.int (g i j) s.toks) {s with toks:=s.toks+1}->wpAny ↑5 X.A (f (.int i t) (.int j u)) Q E s):
  OpR X f (rI C λi j=>.int (g i j)):=by
 intro pins s σ H x y v u Q I b a h;refine h.g λi j e k c q=>?_;subst e;subst k;obtain⟨t,rfl⟩:=b;obtain⟨d,rfl⟩:=a;exact rule i j t d s _ _ c (Z3 (.int _) H (I.tok _) ⟨_,rfl⟩ q)
def zBG{g:Int->Int->Int}
  (rule: ∀ i j  t u  s  Q  E ,Q (.int (g i j) s.toks) {s with toks:=s.toks+1}->wpAny ↑5 X.A (f (.int i t) (.int j u)) Q E s):
  OpR X f (Ua λi j=>.int (g i j)):=by
 intro pins s σ H x y v u Q I b a h;refine h.b λi j d e q=>?_;subst d;subst e;obtain⟨t,rfl⟩:=b;obtain⟨c,rfl⟩:=a;exact rule i j t c s _ _ (Z3 (.int _) H (I.tok _) ⟨_,rfl⟩ q)
def zBH{g:Int->Int->Bool}
  (rule: ∀ i j  t u  s  Q  E ,Q (.bool (g i j)) s->wpAny ↑5 X.A (f (.int i t) (.int j u)) Q E s):
  OpR X f (Ua λi j=>.bl (g i j)):=by
 intro pins s σ H x y v u Q I b a h;refine h.b λi j d e q=>?_;subst d;subst e;obtain⟨t,rfl⟩:=b;obtain⟨c,rfl⟩:=a;exact rule i j t c s _ _ (Z3 (.bl _) H I rfl q)
def CMul(i j:Int):Prop:=(-(2 ^ 64)<i/\i<2 ^ 64)\/(-(2 ^ 64)<j/\j<2 ^ 64)
def CMul.ok(h:CMul i j):IntMulOk i j:=by
 rcases h with⟨h1,h2⟩|⟨h1,h2⟩
 .exact .of_left (intBits_le_64 h1 h2)
 .exact .of_right (intBits_le_64 h1 h2)
def L5:OpR X (binaryOp .Add) (Ua λi j=>.int (i+j)):=zBG λ_ _ _ _ _ _ _ q=>add_int q
def unI{g:Int->Int}
  (rule: ∀ i  t  s  Q  E ,Q (.int (g i) s.toks) {s with toks:=s.toks+1}->wpAny ↑5 X.A (f (.int i t)) Q E s):
  UnR X f (rU λi=>.int (g i)):=by
 intro pins s σ H x v Q I a h;refine h.a λi b q=>?_;subst b;obtain⟨t,rfl⟩:=a;exact rule i t s _ _ (Z3 (.int (g i)) H (I.tok _) ⟨_,rfl⟩ q)
end
section
variable{b c:Expr}
def SJ(I:↑1)(q:Q (.bl k) H)(e:k=k'):EP X pins σ Q (.bool k') s:=by subst e;exact Z3 (.bl k) H I rfl q
def zBI:OpR X (compareOp .LtE) (Ua λi j=>.bl (decide (i<=j))):=zBH λ_ _ _ _ _ _ _ q=>le_int q
def Hs:OpR X (compareOp .In) (λx y H Q=> ∃i j,x=.str i/\y=.str j/\Q (.bl ↑42) H):=by intro pins s σ H x y v u Q I b a h;refine h.b λi j d e q=>?_;subst d;subst e;obtain⟨t,rfl⟩:=b;obtain⟨c,rfl⟩:=a;exact in_str (SJ I q rfl)
def Ls:OpR X (compareOp .Is) (λx y H Q=>y=.non/\Q (.bl (decide (x=.non))) H):=by
 intro pins s σ H x y v u Q I a b h;obtain⟨rfl,q⟩:=h;cases b;refine is_none_gen (SJ I q ?_)
 cases x<;>first
  |(cases a;rfl)
  |(obtain⟨t,rfl⟩:=a;rfl)
def SK:OpR X (compareOp .NotIn) (λx y H Q=> ∃i j,x=.str i/\y=.str j/\Q (.bl (!↑42)) H):=by intro pins s σ H x y v u Q I b a h;refine h.b λi j d e q=>?_;subst d;subst e;obtain⟨t,rfl⟩:=b;obtain⟨c,rfl⟩:=a;exact notIn_str (SJ I q rfl)
def OpR.or(h:OpR X f r)(h':OpR X f r'):OpR X f (λx y H Q=>r x y H Q\/r' x y H Q):=by
 intro pins s σ H x y v u Q I b a q;rcases q with q|q
 .exact h pins s σ H x y v u Q I b a q
 .exact h' pins s σ H x y v u Q I b a q
def Lu(b)(h:op≠.In:=by decide)(c:op≠.NotIn:=by decide):behindInMarks op b=false:=by
 have d:(op==CmpOp.In)=false:=by cases op<;>first |rfl|exact absurd rfl h
 have a:(op==CmpOp.NotIn)=false:=by cases op<;>first |rfl|exact absurd rfl c
 cases b<;>simp[behindInMarks,d,a]
def Zl(t:TE):TT:=λσ H Q=>t σ H λx H'=> ∃k,x=.bl k/\Q k H'
def Lv(r r':R2)(d tb c:TE):TE:=λσ H Q=>d σ H λx i=>tb σ i λy b=>r x y b λz a=> ∃k,z=.bl k/\
 (if k=true then c σ a λe h=>r' y e h Q else Q (.bl false) a)
def Lw(ho:OpR X (compareOp op) r)(i:OpR X (compareOp op') r')(N:PE X a ta)(C:PE X b tb)(L:PE X c tc)
  (hm:lastMarks [op,op'] [b,c]=false:=by with_unfolding_all rfl):PT X (.Compare a [op,op'] [b,c] pos) (Zl (Lv r r' ta tb tc)):=by
 intro pins s σ H Q I h
 refine isTrue_chain (wU (N pins s σ H _ I h) λv s1 ⟨x,H1,I1,P,M⟩=>test_link (wU (C pins s1 σ H1 _ I1 M) λu s2 ⟨y,p,S,j,G⟩=>
  wU (ho pins s2 σ p x y v u _ S P j G) λd q ⟨z,n,m,J,k,e,o⟩=>?_)) hm
 subst e;cases J;refine ý ?_
 cases k with
 |false=>
  refine o.a λk' E A=>?_;cases E;exact ite_ff (Z8 n m A)
 |true=>
  refine ite_tt (test_last (wU (L pins q σ n _ m o) λK D ⟨B,T,w,Y,O⟩=>wU (i pins D σ T y B u K _ w j Y O) λd' s5 ⟨z2,H5,U,W,k2,Z,F⟩=>?_));subst Z;cases W;exact ý (Z8 H5 U F)
def M1(K:P0)(x:V)(H:Hp)(k:Bool):Prop:=
 match x with
 |.non=>k=false
 |.bl b=>k=b
 |.int i=>k=(i !=0)
 |.str y=>y.length<=sizeLine/\k=((y.length:Int) !=0)
 |.byt y=>y.size<=sizeLine/\k=((y.size:Int) !=0)
 |.ref p=>(∃xs,SqL K H p xs/\k= !xs.isEmpty)\/(∃xs,SqT K H p xs/\k= !xs.isEmpty)\/ ∃a,H p=some (.dK a)/\k= !a.isEmpty
 |_=>False
def KU(r:Vals xs its):(!its.toArray.isEmpty)= !xs.isEmpty:=by cases r<;>simp
def GQ: sizeLine <2 ^ 63:=by rw[ô];decide
theorem M2:TruR X (λx H Q=> ∃k,M1 X.K x H k/\Q k H):=by
 intro pins s σ H x v Q I d h;obtain⟨k,e,q⟩:=h;have hs:=ô
 cases x with
 |non=>
  cases d;have a:=e;subst a;exact truthy_none ⟨H,I,q⟩
 |bl b=>
  cases d;have a:=e;subst a;exact ý ⟨H,I,q⟩
 |int i=>
  obtain⟨t,rfl⟩:=d;have a:=e;subst a;exact PySem.P.truthy_int ⟨H,I,q⟩
 |str y=>
  obtain⟨t,rfl⟩:=d;obtain⟨w,a⟩:y.length<=sizeLine/\k=_:=e;subst a;exact PySem.P.truthy_str #[0] ⟨H,I.tok _,q⟩
 |byt y=>
  obtain⟨t,rfl⟩:=d;obtain⟨w,a⟩:y.size<=sizeLine/\k=_:=e;subst a;exact PySem.W.truthy_bytes #[0] ⟨H,I.tok _,q⟩
 |ref p=>
  cases d;have a:=e;rcases a with⟨xs,hx,a⟩|⟨xs,hx,a⟩|⟨kvs,hx,a⟩
  .subst a;obtain⟨n,r,o,u⟩:=I.list hx;have c:=r.length;exact wpAny_truthy_list o.isList (by simp only[sA];lia) (Z8 H (I.tok _) (by rw[KU r];exact q))
  .subst a;obtain⟨n,r,o,u⟩:=I.tuple hx;have c:=r.length;exact truthy_tuple o (by simp only[sA];lia) (Z8 H (I.tok _) (by rw[KU r];exact q))
  .subst a;obtain⟨u,z,j,r,m⟩:kvs.length<=sizeLine/\_=false/\ ∃j,KV kvs j/\s.heap.DictOf _ p j:=I.hok p _ hx;have c:=Paired.length r;exact wpAny_truthy_dict z m #[0] (Z8 H (I.tok _) (by rw[(show (!j.isEmpty)= !kvs.isEmpty by cases r<;>rfl)];exact q))
 |_=>exact e.elim
def Al:OpR X (binaryOp .Add) (λx y H Q=> ∃i j,x=.str i/\y=.str j/\i.length+j.length<=sizeLine/\Q (.str (i++j)) H):=by intro pins s σ H x y v u Q I c a h;refine h.g λi j g k b q=>?_;subst g;subst k;obtain⟨t,rfl⟩:=c;obtain⟨d,rfl⟩:=a;exact add_str (λd e=>(Z3 (.str _) H (I.tok _) ⟨_,rfl⟩ q)) b
def vals1(r:Vals [x] us): ∃u,us=[u]/\RelV x u:=by
 cases r with
 |cons r1 r2=>cases r2;exact Z8 _ rfl r1
def vals2(r:Vals [x,y] us): ∃u d,us=[u,d]/\RelV x u/\RelV y d:=by
 cases r with
 |cons r1 r2=>
  cases r2 with
  |cons r3 r4=>cases r4;exact Z3 _ _ rfl r1 r3
def Ht(b:X.calm=true):CallR X (.builtin "min") (λxs H Q=> ∃i j,xs=[.int i,.int j]/\Q (.int (if j<i then j else i)) H):=by
 intro pins s σ H xs d Q I r h;refine h.d λi j g q=>?_;subst g;refine(vals2 r).b λu e n o p=>?_;subst n;obtain ⟨t,rfl⟩:=o;obtain ⟨m,rfl⟩:=p;refine min_two_ints (I.ok.hd b) λh' c k=>(Z3 _ H (I.kept k) ?_ q)
 by_cases a:j<i
 .rw[iP a,iP a];exact⟨_,rfl⟩
 .rw[iN0 a,iN0 a];exact⟨_,rfl⟩
def Hu:CallR X (.type "int") (λxs H Q=>(∃i,xs=[.int i]/\Q (.int i) H)\/ ∃k,xs=[.bl k]/\Q (.int (if k then 1 else 0)) H):=by
 intro pins s σ H xs b Q I r h;rcases h with⟨i,rfl,q⟩|⟨k,rfl,q⟩
 .obtain⟨u,rfl,t,rfl⟩:=vals1 r;exact call_int_int (Z3 (.int i) H I ⟨_,rfl⟩ q)
 .obtain⟨u,rfl,a⟩:=vals1 r;cases a;exact call_int_bool (Z3 (.int (if k then 1 else 0)) H (I.tok _) ⟨_,rfl⟩ q)
end
structure Cls(K:P0)(C:Addr):Prop where
 pg:PySem.W.plainGet K C Str.empty=true
 hd:PySem.W.hasDictIn K C=true
 po:PySem.W.plainOver K C=true
 sa:PySem.W.findIn K (.ref C) "__setattr__"=some (some (.builtin "object.__setattr__"))
structure Meth(K:P0)(C:Addr)(m:Str)(f:Addr):Prop where
 at_:PySem.W.findIn K (.ref C) m=some (some (.ref f))
 fn:PySem.W.isFn K (.ref f)=true
 kp:PySem.W.keepIn K (.ref f)=true
section
variable{H:Hp}
inductive FR(K:P0)(H:Hp):V->Ł->Prop where
 |non:FR K H .non (.type "NoneType")
 |bl (x:Bool):FR K H (.bl x) (.type "bool")
 |int (i:Int):FR K H (.int i) (.type "int")
 |str (x:Str):FR K H (.str x) (.type "str")
 |flt (x:UInt64):FR K H (.flt x) (.type "float")
 |lst {a:Addr} {xs:List V} (e:H a=some (.lst xs)):FR K H (.ref a) (.type "list")
 |frz {a:Addr} {o:Obj} {xs:List V} (e:H a=some (.frz o (.lst xs))):FR K H (.ref a) (.type "list")
 |tup {a:Addr} {xs:List V} (e:H a=some (.tup xs)):FR K H (.ref a) (.type "tuple")
 |dK {a:Addr} {kvs:List (Key×V)} (e:H a=some (.dK kvs)):FR K H (.ref a) (.type "dict")
 |dT {a:Addr} {kvs:List (List Key×V)} (e:H a=some (.dT kvs)):FR K H (.ref a) (.type "dict")
 |ins {a C dx:Addr} {fs:List (Str×V)} (e:H a=some (.ins C dx fs)) (cl:Cls K C) (ha:PySem.W.findIn K (.ref C) "__class__"=some (some (.builtin "object.__class__")))
   (hn:PySem.W.specialIn K (.builtin "object.__class__") "__get__"=some (some (.builtin "getset_descriptor.__get__"))) (htk:PySem.W.takesIn K (.builtin "object.__class__")=some true)
   (hm:PySem.W.mroIn K C (.type "object")=some true):FR K H (.ref a) (.ref C)
end
structure Room(k:Nat)(A:Around):Prop where
 hd:A.handled=none
 dp:A.depth+3 * k+5<recursionLimit
 un:A.units+16 * k+200<cLine
 gd:A.guards=some []
theorem Room.mono(r:Room k A)(h:j<=k):Room j A:=⟨r.hd,by have:=r.dp;lia,by have:=r.un;lia,r.gd⟩
theorem Room.deeper(r:Room (k+1) A)(env):Room k (A.deeper env):=
 ⟨r.hd,by have:=r.dp;show A.depth+1+3 * k+5<_;lia,by have:=r.un;show A.units+3+16 * k+200<_;lia,r.gd⟩
theorem Room.in1(r:Room (k+1) A):Room k A.in1:=
 ⟨r.hd,by have:=r.dp;show A.depth+3 * k+5<_;lia,by have:=r.un;show A.units+1+16 * k+200<_;lia,r.gd⟩
def An{A:Around}:(A.under (.builtin "type.__call__" ⟨.ref C::us,kw⟩)).units=A.units+1:=by
 first |rfl|simp[Code.cUnits]
theorem Room.make(r:Room (k+1) A)(C)(us)(kw):Room k (A.under (.builtin "type.__call__" ⟨.ref C::us,kw⟩)):=
 ⟨r.hd,by have:=r.dp;rw[(show (A.under (.builtin "type.__call__" ⟨.ref C::us,kw⟩)).depth=A.depth+1 by
   first |rfl|simp[Code.weight])];lia,by have:=r.un;rw[An];lia,by unfold Around.under;dsimp only;rw[r.gd];first |rfl|simp[Code.guards,Code.isGuard,pushGuards]⟩
def Room.depth(r:Room k A):A.depth<recursionLimit:=by have:=r.dp;omega
def Room.units(r:Room k A):A.units+64<cLine:=by have:=r.un;omega
def tNil:TA:=λ_ H Q=>Q [] H
def zBK(b:TE)(tr:TA):TA:=λσ H Q=>b σ H λx c=>tr σ c λxs a=>Q (x::xs) a
section
variable{e:Expr}{pos:Pos}
def sP:PA X [] tNil:=λ_ _ _ _ H Q I h=>Calls.spliced_nil (Z3 ([]) H I .nil h)
abbrev q8(X:Cx)(e:Expr)(es:List Expr):Prop:=starEach (e::es) X.env=(false,eval e X.env)::starEach es X.env
def gU(n:PE X e te)(d:PA X es t)(hs:q8 X e es:=by rfl):PA X (e::es) (zBK te t):=by intro pos pins s σ H Q I h;rw[hs];show wpAny _ _ _ _ _ s;refine Calls.spliced_cons (wU (n pins s σ H _ I h) λu s1 ⟨x,b,I1,i,m⟩=>?_);exact wU (d pos pins s1 σ b _ I1 m) λo p ⟨xs,c,j,a,k⟩=>(Z3 _ c j (.cons i a) k)
def tTup(t:TA):TE:=λσ H Q=>t σ H λxs a=>↑8<=sizeLine/\ ∀p,a p=none->Q (.ref p) (yQ a p (.tup xs))
def tLst(t:TA):TE:=λσ H Q=>t σ H λxs a=>↑8<=sizeLine/\ ∀p,a p=none->Q (.ref p) (yQ a p (.lst xs))
end
abbrev Sp:=List V->Hp->VK->XK->Prop
abbrev Hw:=List Env->Hp->Shared->XK->VP
structure Env0(P:ł)(w:World)(K:P0)(mg:K0)(base:Heap)(A:Around)(outer:List Env)(s:ŀ)(H:Hp):Prop where
 frames:A.frames=some outer
 mod:Mod K mg base
 bs: ∀b o,base.get? b=some o->s.heap.get? b=some o/\H b=none
 bsz:base.objs.size<=↑3
 funs:s.heap.FunFrames base outer
 frf: ∀b∈OL outer,H b=none
 hok:HOk P w H s.heap
 bare:AllBare s.gens
def CE(outer:List Env)(P:ł)(w:World)(H:Hp)(s:ŀ)(Q:VK)(u:Ł)(a:ŀ):Prop:=
 ∃v H',a.os=s.os/\AllBare a.gens/\Un (OL outer) [] H H' s.heap a.heap/\HOk P w H' a.heap/\RelV v u/\Q v H'
def CR(CX:Hw)(outer:List Env)(P:ł)(w:World)(H:Hp)(s:ŀ)(Q:VK)(E:XK)(r:Result)(a:ŀ):Prop:=
 match r with
 |.ok (.ret u)=>CE outer P w H s Q u a
 |.ok _=>False
 |.error e=>CX outer H s E e a
structure FnOk(P:ł)(w:World)(K:P0)(mg:K0)(base:Heap)(CX:Hw)(k:Nat)(f:Addr)(fd:FuncData)(ps:C0)(sp:Sp):Prop where
 len: ∀vs H Q E,sp vs H Q E->↑47=ps.length
 run: ∀(A:Around)(outer:List Env)(s:ŀ)(H:Hp)(args:Args)(us:A0)(vs:List V)(Q:VK)(E:XK),Room k A->Env0 P w K mg base A outer s H->BindsTo s fd args (ps.zip us)->Vals vs us->sp vs H Q E->
  codeAny (model P w) A (.call (.ref f) args) (CR CX outer P w H s Q E) s
def FnOk.imp{K:P0}(F:FnOk P w K mg base CX k f fd ps sp)
  (h: ∀vs H Q E,sp' vs H Q E->sp vs H Q E):FnOk P w K mg base CX k f fd ps sp':=
 ⟨λvs H Q E q=>F.len vs H Q E (h _ _ _ _ q),λA a s H b e vs Q E c d i j hs=>F.run A a s H b e vs Q E c d i j (h _ _ _ _ hs)⟩
def Env0.make{K:P0}(e:Env0 P w K mg base A outer s H)(C)(us)(kw):
  Env0 P w K mg base (A.under (.builtin "type.__call__" ⟨.ref C::us,kw⟩)) outer s H:=⟨by first |exact e.frames|(simpa [Around.under,Code.envs,Code.isFrame,pushEnvs]using e.frames),e.mod,e.bs,e.bsz,e.funs,e.frf,e.hok,e.bare⟩
def Env0.in1{K:P0}(e:Env0 P w K mg base A outer s H):
  Env0 P w K mg base A.in1 outer s H:=⟨e.frames,e.mod,e.bs,e.bsz,e.funs,e.frf,e.hok,e.bare⟩
section
def Inv.env0(I:↑1):Env0 X.prog X.w X.K X.mg X.base X.A X.stack s H:=
 ⟨I.ok.frames,I.ok.mod,I.bs,í I.ok.bsz I.sz,I.stack,I.stkFree,I.hok,I.bare⟩
def Inv.after(I:↑1)(h:CE X.stack X.prog X.w H s Q u s'):EP X pins σ Q u s':=by refine h.j λv H' j=>j.f λos a un c r q=>?_;obtain⟨i,g,d,t,e⟩:=s';obtain rfl:e=s.os:=os;exact Z3 v H' (I.call un c a (λb z=>absurd z (by simp))) r q
end
def zBL(sp:Sp)(a:List V)(E:XK)(t:TA):TE:=λσ H Q=>t σ H λb c=>sp (b++a) c Q E
def Binds(K:P0)(b:FuncData)(ps:C0)(ds:A0):Prop:=
 ∀(s:ŀ)(a:A0),K.In s.heap->(a++ds).length=ps.length->BindsTo s b ⟨a,[]⟩ (ps.zip (a++ds))
def Binds.all{K:P0}(h: ∀d:List Ł,d.length=ps.length->bindArgs fd ⟨d,[]⟩=pure (ps.zip d)):Binds K fd ps []:=λs d _ a=>by rw[aN]at a ⊢;exact .of_eq (h d a)
def SN(CX:Hw)(X:Cx)(E:XK):Prop:= ∀(pins:L1)(σ:St)(H:Hp)(s:ŀ)(e:Ł)(a:ŀ),Inv X pins σ H s->CX X.stack H s E e a->X.xe e a
section
variable{p pos:Pos}{e:Expr}
def M5(F:FnOk X.prog X.w X.K X.mg X.base CX k f fd ps sp)(c:Room k X.A)(i:Binds X.K fd ps ds)(hd:Vals dvs ds)(d:SN CX X E)
  (I:↑1) (r:Vals vs us) (h:sp (vs++dvs) H Q E):wpAny ↑5 X.A (call (.ref f) us) (EP X pins σ Q) X.xe s:=by
 have b:Vals _ _:=r.append hd;refine wpAny_call (Ė (F.run X.A X.stack s H ⟨us,[]⟩ _ _ Q E c I.env0 (i s us I.kIn (by rw[<-b.length];exact F.len _ _ _ _ h)) b h) λr j a=>?_)
 cases r with
 |error e=>exact d pins σ H s e j I a
 |ok fl=>
  cases fl with
  |ret u=>exact I.after a
  |next=>exact False.elim a
  |brk=>exact False.elim a
  |cont=>exact False.elim a
abbrev q9(X:Cx)(p:Pos)(es:List Expr):Prop:=(backTo p (starEach es X.env)).any (·.1)=false
def Dm(F:FnOk X.prog X.w X.K X.mg X.base CX k f fd ps sp)(a:Room k X.A)(i:Gl X x)(j:X.mg x=some (.ref f))(d:PySem.W.keepIn X.K (.ref f)=true)(c:Binds X.K fd ps ds)(hd:Vals dvs ds)(b:SN CX X E)
  (ha:PA X (e::es) t) (hdb:↑35=false:=by decide) (he:q8 X e es:=by rfl) (hpl:q9 X pos es:=by rfl):
  PE X ↑38 (zBL sp dvs E t):=by
 intro pins s σ H Q I h;refine ķ (pE I i j ?_ hdb);refine PySem.W.callWith_K I.ok.mod.kin d (wU (ha pos pins s σ H _ I h) λn s1 ⟨m,o,I1,r,q⟩=>⟨I1.kIn,?_⟩) he hpl;exact M5 F a c hd b I1 r q
end
structure FnScope(N P:C0)(sc:Scope):Prop where
 kind:sc.kind=.function
 co:sc.isCoroutine=false
 gen:sc.isGenerator=false
 nd:N.Nodup
 pre:N.take P.length=P
 par: ∀x∈P,sc.names.lookup x=some .local\/sc.names.lookup x=some .cell
 nofree: ∀y∈sc.names,y.2≠.free
def fsK{N:C0}{d:Scope}(h:N.Nodup/\N.take P.length=P/\(∀x∈P,d.names.lookup x=some .local\/d.names.lookup x=some .cell)/\∀y∈d.names,y.2≠.free)(a:d.kind=.function:=by rfl)(b:d.isCoroutine=false:=by rfl)(c:d.isGenerator=false:=by rfl):FnScope N P d:=⟨a,b,c,h.1,h.2.1,h.2.2.1,h.2.2.2⟩
theorem PX{a:Str->Option NameKind}: ∀{binds}{m},(∀v,(x,v)∉binds)->bindL a binds m x=m x
 |[],_,_=>rfl
 |(n,v)::r,m,h=>by
  unfold bindL;rw[PX λw hw=>h w (mO _ hw)];split
  .have:x≠n:=by rintro rfl;exact h v mF0
   simp[this]
  .rfl
theorem PY{a:Str->Option NameKind}: ∀{binds}{m},(∀v,(x,v)∉binds)->bindC a binds m x=m x
 |[],_,_=>rfl
 |(n,v)::r,m,h=>by
  unfold bindC;rw[PY λw hw=>h w (mO _ hw)];split
  .rfl
  .have:x≠n:=by rintro rfl;exact h v mF0
   simp[this]
theorem PZ{a:Str->Option NameKind}: ∀{P:C0}{vs}{i:Nat}{m},P.Nodup->P[i]? =some x->vs[i]? =some v->a x=some .local->
  bindL a (P.zip vs) m x=some v
 |[],_,_,_,_,h,_,_=>by simp at h
 |_::_,[],_,_,_,_,h,_=>by simp at h
 |p::P,w::vs,0,m,nd,h1,h2,hk=>by simp at h1 h2;subst h1;subst h2;show bindL a (_::P.zip vs) m p=_;unfold bindL;rw[PX λv d=>(Ľ.mp nd).1 (of_mem_zip d).1,iP hk];simp
 |p::P,w::vs,i+1,m,nd,h1,h2,hk=>by show bindL a _ m x=_;unfold bindL;exact PZ (Ľ.mp nd).2 (by simpa using h1) (by simpa using h2) hk
theorem QC{a:Str->Option NameKind}: ∀{P:C0}{vs}{i:Nat}{m},P.Nodup->P[i]? =some x->vs[i]? =some v->a x≠some .local->
  bindC a (P.zip vs) m x=some v
 |[],_,_,_,_,h,_,_=>by simp at h
 |_::_,[],_,_,_,_,h,_=>by simp at h
 |p::P,w::vs,0,m,nd,h1,h2,hk=>by simp at h1 h2;subst h1;subst h2;show bindC a (_::P.zip vs) m p=_;unfold bindC;rw[PY λv d=>(Ľ.mp nd).1 (of_mem_zip d).1,iN0 hk];simp
 |p::P,w::vs,i+1,m,nd,h1,h2,hk=>by show bindC a _ m x=_;unfold bindC;exact QC (Ľ.mp nd).2 (by simpa using h1) (by simpa using h2) hk
noncomputable def start(N:C0)(vs:List V):St:=vs.map some++List.replicate (N.length - ↑47) none
noncomputable def JF(CX:Hw)(P:ł)(w:World)(K:P0)(mg:K0)(base:Heap)(N:C0)(qual:Str)(scope:Scope)(f:Addr)(cd:Ł)(A:Around)(outer:List Env)(s:ŀ)(H:Hp)(E:XK):Cx where
 prog:=P
 w:=w
 K:=K
 mg:=mg
 base:=base
 A:=A.deeper (envOfC qual scope ↑3 f cd)
 N:=N
 s₀:=s
 H₀:=H
 env:=envOfC qual scope ↑3 f cd
 outer:=outer
 stack:=envOfC qual scope ↑3 f cd::outer
 ex:=[]
 calm:=true
 fn:=λ_=>true
 pn:=[]
 xe:=λe s'=>wpAny (model P w) (A.deeper (envOfC qual scope ↑3 f cd)) (leaving (envOfC qual scope ↑3 f cd) e) (λ_ s''=>CX outer H s E e s'') (λe' s''=>CX outer H s E e' s'') s'
def WK{a:Scope}(h:a.names.lookup x=some .cell): ∃c,(cellsFrom n a.names []).lookup x=some c:=by exact ā.mp (PySem.W.cellsFrom_some a.names n [] (.inl h))
theorem QD{K:P0}
  (S:FnScope N ps scope) (hd:A.handled=none) (e0:Env0 P w K mg base A outer s H) (hl:↑47=ps.length) (r:Vals vs us)
  (x:InCallC s ↑3 (bindL (envOfC qual scope ↑3 f cd).kindOf (ps.zip us) λ_=>none) (cellsFrom (↑3+1) scope.names []) (bindC (envOfC qual scope ↑3 f cd).kindOf (ps.zip us) λ_=>none) s1):
  Inv (JF CX P w K mg base N qual scope f cd A outer s H E) [] (start N vs) H s1:=by
 have F:=by have:=congrArg List.length S.pre;rw[lT]at this;omega
 refine x.done.d λB J g C=>?_;subst g;have j: ∀b:Addr,b∉(JF CX P w K mg base N qual scope f cd A outer s H E).ex:=λb z=>absurd (show b∈([]:B9)from z) (by simp)
 refine⟨⟨e0.mod,S.kind,rfl,rfl,à _,λy z c B d=>?_,λy m=>?_,λy c _ h=>?_,λ_=>hd,Around.frames_deeper e0.frames,.inr ⟨rfl,rfl⟩,λb z=>absurd z (j b),e0.bs,e0.bsz,λb _ _=>j b,λb z=>absurd z (j b),e0.funs,e0.frf⟩,
  rfl,e0.bare,Un.kept C,(Z8 _ x.toInCall.ns (λi y v B d L=>?_)),λy c h=>⟨_,x.cell y c h⟩,e0.hok.fresh (à _),λy c h=>?_,λp o=>absurd (show p∈([]:List _)from o) (by simp),e0.hok.kept C,?_⟩
 .exact name_of_addr x.apart (PySem.mem_of_lookup B) (PySem.mem_of_lookup d)
 .have m:=m;rcases m with m|m
  .exact WK m
  .exact absurd rfl (S.nofree _ (PySem.mem_of_lookup m))
 .exact le_of_lt (x.above y c (PySem.mem_of_lookup h))
 .have hi:i<vs.length:=by
   unfold start at d;by_cases hi:i<↑47
   .exact hi
   .rw[è (by simpa using hi)]at d;rw[List.getElem?_replicate]at d;split at d<;>cases d
  have I:vs[i]? =some v:=by
   unfold start at d;rw[â (by simpa using hi),ë]at d
   cases e:vs[i]? with
   |none=>rw[e]at d;cases d
   |some a=>rw[e]at d;cases d;rfl
  refine(r.get I).a λu D G=>?_;have o:ps[i]? =some y:=by rw[<-S.pre,ĭ (by omega)];exact B
  have n:ps.Nodup:=by rw[<-S.pre];exact S.nd.sublist (List.take_sublist _ _)
  refine Z8 u G ?_;rcases S.par y (î o)with k|k
  .exact .inl ⟨k,PZ n o D k⟩
  .obtain⟨c,e⟩:=WK k;refine .inr ⟨.inl k,c,e,?_⟩;have q:=x.cell y c e;rw[QC n o D (by show scope.names.lookup y≠_;rw[k];decide)]at q;exact q
 .exact e0.hok.fresh (le_of_lt (x.above y c (PySem.mem_of_lookup h)))
 .unfold start;show _=N.length;rw[lA,lM0,Č]
  lia
def Zm{K:P0}{kV:Ł}
     (lk:K.lookup f=some ⟨oc,od,.func (PySem.W.fnOf name qual params body scope dV kV doc pm an cdv ct),osl⟩) (hcd:PySem.W.codeIn K cdv qual=true) (S:FnScope N ps scope)
  (len: ∀vs H Q E,sp vs H Q E->↑47=ps.length)
  (hbody: ∀ A  outer  s  H  vs  Q  E ,Room k (A.deeper (envOfC qual scope ↑3 f cdv))->sp vs H Q E->
   ∃t,PSs (JF CX P w K mg base N qual scope f cdv A outer s H E) body t/\t {nx:=λ_ H'=>Q .non H',rt:=Q} (start N vs) H):
  FnOk P w K mg base CX (k+1) f (PySem.W.fnOf name qual params body scope dV kV doc pm an cdv ct) ps sp:=by
 refine⟨len,λA outer s H z G vs Q E j d D r i=>?_⟩;have KX:=d.mod.kin.keeps λb o e=>(d.bs b o e).1
 have c: ∀y∈ps.zip G,scope.names.lookup y.1=some .local\/(scope.names.lookup y.1=some .cell/\((cellsFrom (↑3+1) scope.names []).lookup y.1).isSome=true):=λ⟨n,v⟩ F=>by
  rcases S.par n (of_mem_zip F).1 with q|q
  .exact .inl q
  .exact .inr ⟨q,PySem.W.cellsFrom_some _ _ _ (.inl q)⟩
 refine codeAny_call_function j.depth (KX _ _ lk) rfl S.co S.gen rfl (PySem.W.codeRec_of KX hcd) (D _ _ _ _ ?_);refine wpAny_newFunctionEnv_cells S.kind c λM B s1 x=>?_;subst B;refine⟨(d.mod.nolimit.keeps λb o e=>(d.bs b o e).1).keeps x.toInCall.keep,codeAny_func ?_⟩;refine(hbody A outer s H vs Q E (j.deeper _) i).a λt L C=>?_;refine ò (L [] s1 _ H _ (QD S j.hd d (len _ _ _ _ i) r x) C) (λI p hs=>?_) λe p hs=>hs
 have h: ∀{a:St}{H':Hp}{v:V}{u:Ł},Inv (JF CX P w K mg base N qual scope f cdv A outer s H E) [] a H' p->RelV v u->Q v H'->CE outer P w H s Q u p:=
  λ{a H' v u} J m q=>(Y9 v H' ⟨J.os,J.bare,J.base,J.hok,m,q⟩)
 cases I with
 |ret u=>
  refine hs.l λv a H' g=>g.e λJ m q=>?_;exact h J m q
 |next=>
  refine hs.d λa H' J q=>?_;exact h (v:=V.non) J rfl q
 |brk=>
  refine hs.d λ_ _ _ q=>?_;exact False.elim q
 |cont=>
  refine hs.d λ_ _ _ q=>?_;exact False.elim q
section
variable{p pos:Pos}{id:String}
def tCB(r:List V->Hp->VK->Prop)(t:TA):TE:=λσ H Q=>t σ H λb a=>r b a Q
def FB(n:CallR X (.builtin id) r)(j:Gl X x)(m:X.mg x=none)(i:bootBuiltins x=some (.builtin id))(q:PA X (e::es) t)(b:x≠"__name__":=by decide)(a:↑35=false:=by decide)
  (he:q8 X e es:=by rfl) (hpl:q9 X pos es:=by rfl):PE X ↑38 (tCB r t):=by
 intro pins s σ H Q I h;refine ķ (EH I j m i ?_ b a);exact PyProof.Rows.callWith_builtin1 (wU (q pos pins s σ H _ I h) λk s1 ⟨c,u,I1,d,o⟩=>n pins s1 σ u c k Q I1 d o) he hpl
def CQ(n:CallR X (.type T) r)(j:Gl X x)(m:X.mg x=none)(i:bootBuiltins x=some (.type T))(q:PA X (e::es) t)(b:x≠"__name__":=by decide)(a:↑35=false:=by decide)
  (he:q8 X e es:=by rfl) (hpl:q9 X pos es:=by rfl):PE X ↑38 (tCB r t):=by
 intro pins s σ H Q I h;refine ķ (EH I j m i ?_ b a);exact Ď (wU (q pos pins s σ H _ I h) λk s1 ⟨c,u,I1,d,o⟩=>n pins s1 σ u c k Q I1 d o) he hpl
end
end L2
namespace HT
open PySem PyProof.Rows
section
def cat_tup(v:IsTup s.heap t vs.toArray)(q:IsTup s.heap b ws.toArray)(k:vs≠[])
  (h1:ws=[]->Q (.ref t) s) (h2:ws≠[]->Q (.ref ↑3) {s with heap:=s.heap.push {cls:=.type "tuple",data:=.seq (vs++ws).toArray}})
  (hsz:↑47+ws.length<=sizeLine):wpAny ↑7 A (binaryOp .Add (.ref t) (.ref b)) Q E s:=by
 obtain⟨⟨cls,m,data,sl⟩,h,u,n,r⟩:=id v;obtain⟨⟨o,c,_,d⟩,a,j,p,i⟩:=id q;subst u r j i;have e:vs.toArray++ws.toArray=(vs++ws).toArray:=by simp
 by_cases hw:ws=[]
 .exact concat_meets ⟨_,h,rfl⟩ ⟨_,a,rfl⟩ noFill_tuple_add seq_tuple_add PySem.F.slot_tuple_add PySem.F.entry_tuple_add (PySem.F.args_tuple_add_2 _ _)
   (tuple_addW1 t b vs.toArray ws.toArray n p m c sl d (by simpa using k) (by simp[hw])) ⟨h,a,h1 hw⟩
 .refine concat_meets ⟨_,h,rfl⟩ ⟨_,a,rfl⟩ noFill_tuple_add seq_tuple_add PySem.F.slot_tuple_add PySem.F.entry_tuple_add (PySem.F.args_tuple_add_2 _ _)
   (tuple_addW2 t b vs.toArray ws.toArray n p m c sl d (by simpa using k) (by simpa using hw) (by rw[sA];exact hsz)) ⟨h,a,?_⟩
  rw[e];exact h2 hw
noncomputable def sIx(n d:Nat):Option Int->Nat
 |none=>d
 |some v=>if v<0 then(v+(n:Int)).toNat else min v.toNat n
theorem sIx_nat(n d k:Nat):sIx n d (some  k )=min k n:=by show(if(k:Int)<0 then((k:Int)+(n:Int)).toNat else min (k:Int).toNat n)=min k n;rw[iN0 #[0],Ĩ]
theorem sIx_le(n d)(hd:d<=n)(o):sIx n d o<=n:=by
 cases o with
 |none=>exact hd
 |some v=>
  show(if v<0 then(v+_).toNat else min v.toNat n)<=n;by_cases a:v<0
  .rw[iP a];lia
  .rw[iN0 a];exact Nat.min_le_right _ _
theorem Do(v)(n d:Nat):(if v<0 then max (v+(n:Int)) 0 else min v  n )=((sIx n d (some v):Nat)):=by
 show _=(((if v<0 then(v+_).toNat else min v.toNat n):Nat):Int)
 by_cases a:v<0
 .simp only[iP a];lia
 .simp only[iN0 a];lia
theorem Ap(i j:Nat):Builtin.Slice.slicePlaces  i   j  1=j - i:=by
 unfold Builtin.Slice.slicePlaces;have a:(1:Int)>0:=by lia
 split<;>lia
def KW(p:IsPart v o)(h:Q o s):wpAny ↑7 A (Builtin.Slice.slicePartIndex v) Q E s:=by
 cases p with
 |none=>exact slicePart_none h
 |int i t=>exact slicePart_int h
def sliceApplied_gen{lo:N0}{Q:Int×Int×Nat->ŀ->Prop}(hs:s.heap.IsSliceOf sl vl vu .none)(pl:IsPart vl lo)(c:IsPart vu hi)
  (h:Q (((sIx n 0 lo:Nat)),1,sIx n n hi - sIx n 0 lo) s):wpAny ↑7 A (Builtin.Slice.sliceApplied (.ref sl) (pure  n )) Q E s:=by
 refine(id hs).c λos a d b=>?_;refine wB (wB (ù a b rfl (wB (ù a b rfl (wB (ù a b rfl (wP ?_)))))));refine wB (slicePart_none ?_);show wpAny _ _ _ _ _ s;refine wB (KW pl (wB (KW c (wB (wP ?_)))));show wpAny _ _ (match Builtin.Slice.sliceAdjust lo hi 1 _ with |(lo,hi)=>pure (lo,_,Builtin.Slice.slicePlaces lo hi 1)) _ _ s;rw[(show Builtin.Slice.sliceAdjust lo hi 1  n =(((sIx n 0 lo):Int),((sIx n n hi):Int)) by
   have e: ¬((1:Int)<0):=by lia
   unfold Builtin.Slice.sliceAdjust;refine Prod.ext ?_ ?_
   .cases lo with
    |none=>rfl
    |some v=>exact Do v n 0
   .cases hi with
    |none=>rfl
    |some v=>exact Do v n n)];show wpAny _ _ (pure _) _ _ s;rw[Ap];exact wP h
theorem Ly(xs:B0)(i k:Nat):((List.range k).filterMap λ(m:Nat)=>xs[( i +(m:Int) * 1).toNat]?).toArray=((xs.toList.drop i).take k).toArray:=by
 have e:(λ(m:Nat)=>xs[((i:Int)+(m:Int) * 1).toNat]?)=λm=>xs[i+m]? :=by
  funext m;have:((i:Int)+(m:Int) * 1).toNat=i+m:=by lia
  rw[this]
 rw[e];have:=pick_run xs i k;rw[List.filterMap_map]at this;have a:((λx=>xs[x]?)∘λx=>i+x)=λm=>xs[i+m]? :=rfl;rw[a]at this;rw[this]
def getItem_tuple_cut{lo:N0}(b:IsTup s.heap t items)(hs:s.heap.IsSliceOf sl vl vu .none)(pl:IsPart vl lo)(j:IsPart vu hi)
  (hw: ¬(sIx items.size 0 lo=0/\sIx items.size items.size hi=items.size))
  (h:Q (.ref ↑3) {s with heap:=s.heap.push {cls:=.type "tuple",data:=.seq ((items.toList.drop (sIx items.size 0 lo)).take (sIx items.size items.size hi - sIx items.size 0 lo)).toArray}})
  (hsz:items.size<=sizeLine):wpAny ↑7 A (getItem (.ref t) (.ref sl)) Q E s:=by
 have a:sizeOk (.seq ((items.toList.drop (sIx items.size 0 lo)).take (sIx items.size items.size hi - sIx items.size 0 lo)).toArray):=by show((items.toList.drop _).take _).toArray.size<=sizeLine;rw[sA,lT,ÿ,ü];omega
 refine(id hs).c λos d i k=>?_;have c:s.TypeIs (.ref sl) "slice":=(Z8 os d i)
 unfold getItem
 try with_reducible refine ö ?_
 first |refine wB _|skip
 refine wB (wpAny_sequenceKey b.typeIs ↑4 ?_)
 refine wB (Ċ b.typeIs Ĕ
  (Ă Ĕ b.typeIs entry_tuple_getitem ?_ (args_tuple_getitem _ _)))
 show wpAny _ _ (Builtin.Tuple.tupleItemsOf _ >>= _) _ _ s;refine wB (tupleItemsOf_ b ?_);refine wB (wpAny_typeOf c ?_);refine wB (sliceApplied_gen hs pl j ?_);have e: ¬((((sIx items.size 0 lo:Nat):Int)==0&&(1:Int)==1&&(sIx items.size items.size hi - sIx items.size 0 lo)==items.size)=true):=by intro q;rw[aE,aE]at q;have n:(_:Int)=0:=eq_of_beq q.1.1;have m:=eq_of_beq q.2;exact hw ⟨by omega,by omega⟩
 show wpAny _ _ (if _=true then _ else _) _ _ s;rw[iN0 e,Ly]
 first
  |exact wB (ę (wP (Z8 _ rfl (wP h))) a)
  |exact wB _
  |exact wB _
  |exact wB _
end
end HT
namespace L2
open PySem PySem.Spec PyProof.Rows
abbrev TO:=St->Hp->(Option Int->Hp->Prop)->Prop
def PO(X:Cx)(e:Option Expr)(t:TO):Prop:=
 ∀(pins:L1)(s:ŀ)(σ:St)(H:Hp)(Q:Option Int->Hp->Prop),Inv X pins σ H s->t σ H Q->
  wpAny ↑5 X.A (evalPart e X.env) (λu a=> ∃o H',Inv X pins σ H' a/\IsPart u o/\Q o H') X.xe s
def Ue:TO:=λ_ H Q=>Q none H
def zBM(t:TE):TO:=λσ H Q=>t σ H λx a=> ∃i,x=.int i/\Q (some i) a
section
variable{lo hi:Option Expr}{p2:Pos}
def Uh(h:PE X e te):PO X (some e) (zBM te):=by intro pins s σ H Q I hw;refine wU (h pins s σ H _ I hw) λu s1 ⟨x,c,I1,a,b⟩=>?_;refine b.a λi d q=>?_;subst d;obtain⟨t,rfl⟩:=a;exact Z3 _ c I1 (.int i t) q
def SlR(X:Cx)(r:V->Option Int->Option Int->Hp->VK->Prop):Prop:=
 ∀(pins:L1)(s:ŀ)(σ:St)(H:Hp)(x:V)(v b a:Ł)(lo hi:N0)(sl:Addr)(Q:VK),Inv X pins σ H s->RelV x v->s.heap.IsSliceOf sl b a .none->IsPart b lo->IsPart a hi->r x lo hi H Q->
  ∃T id,typeLookup (.type T) "__getitem__"=pure (some (.builtin id))/\s.TypeIs v T/\wpAny ↑5 X.A (getItem v (.ref sl)) (EP X pins σ Q) X.xe s
def SlR.or(h:SlR X r)(h':SlR X r'):SlR X (λx lo hi H Q=>r x lo hi H Q\/r' x lo hi H Q):=by
 intro pins s σ H x v b a lo hi sl Q I d hs e c q;rcases q with q|q
 .exact h pins s σ H x v b a lo hi sl Q I d hs e c q
 .exact h' pins s σ H x v b a lo hi sl Q I d hs e c q
def tSl(r:V->Option Int->Option Int->Hp->VK->Prop)(e:TE)(d a:TO):TE:=λσ H Q=>e σ H λx h=>d σ h λl b=>a σ b λu c=>r x l u c Q
def Lz(i:SlR X r)(j:PE X e te)(J:PO X lo tl)(E:PO X hi th):PE X (.Subscript e (.Slice lo hi none p2) pos) (tSl r te tl th):=by intro pins s σ H Q I h;refine Subscript_ (wU (j pins s σ H _ I h) λv s1 ⟨x,L,I1,B,y⟩=>?_);refine wpAny_Slice (wU (J pins s1 σ L _ I1 y) λc G ⟨l,k,D,w,p⟩=>wU (E pins G σ k _ D p) λd a ⟨u,o,n,F,K⟩=>?_);refine wP ?_;refine(i pins {a with heap:=a.heap.push {cls:=.type "slice",data:=.fields #[c,d,.none]}} σ o x v c d l u ↑40 Q (n.kept λb M q=>hP0 _ q) B (Heap.IsSliceOf.new ..) w F K).b λT id C z m=>?_;show wpAny _ X.A _ _ X.xe {a with heap:=a.heap.push {cls:=.type "slice",data:=.fields #[c,d,.none]}};exact tail_any z C m (by with_unfolding_all rfl)
def Hx(xs:List V)(lo hi:N0):List V:=(xs.drop (HT.sIx ↑8 0 lo)).take (HT.sIx ↑8 ↑8 hi - HT.sIx ↑8 0 lo)
theorem IE(xs)(lo hi):(Hx xs lo hi).length<=xs.length:=by
 unfold Hx;rw[lT,ÿ]
 lia
def rSlT(K:P0):V->Option Int->Option Int->Hp->VK->Prop:=λx lo hi H Q=> ∃a xs,x=.ref a/\SqT K H a xs/\
 ¬(HT.sIx ↑8 0 lo=0/\HT.sIx ↑8 ↑8 hi=↑8)/\ ∀p,H p=none->Q (.ref p) (yQ H p (.tup (Hx xs lo hi)))
def M6:SlR X (rSlT X.K):=by
 intro pins s σ H x v p o lo hi sl Q I m hs n k h;refine h.g λa xs g j hw q=>?_;subst g;cases m;refine(I.tuple j).c λd r i e=>?_;have c:d.toArray.size=xs.length:=by rw[sA];exact r.length.symm
 refine Z3 _ _ PyProof.Rows.slot_tuple_getitem.lookup i.typeIs ?_;refine HT.getItem_tuple_cut i hs n k (by rw[c];exact hw) ?_ (by rw[c];exact e);rw[c];refine Z3 (.ref ↑3) _ (I.laid (λb u q=>hP0 _ q) (à _) ?_) rfl (q _ (I.hok.fresh (à _)));exact⟨í (IE xs lo hi) e,_,(r.drop _).take _,IsTup.new _ _⟩
def zBN(K:P0):R2:=λx y H Q=> ∃a b xs c,x=.ref a/\y=.ref b/\SqT K H a xs/\SqT K H b c/\xs≠[]/\↑8+c.length<=sizeLine/\
 (c=[]->Q (.ref a) H)/\(c≠[]-> ∀p,H p=none->Q (.ref p) (yQ H p (.tup (xs++c))))
def Vals.nil_iff(r:Vals xs us):us=[]↔xs=[]:=by
 cases r with
 |nil=>simp
 |cons _ _=>simp
def Ui:OpR X (binaryOp .Add) (zBN X.K):=by intro pins s σ H x y v u Q I A r h;refine h.i λa b xs B g=>g.w λD E p k j i o n=>?_;subst D;subst E;cases A;cases r;refine(I.tuple p).c λm d p1 _=>?_;refine(I.tuple k).c λe c p2 _=>?_;refine HT.cat_tup p1 p2 (λz=>j (d.nil_iff.mp z)) (λz=>(Z3 (.ref a) H I rfl (o (c.nil_iff.mp z)))) (λz=>?_) (by rw[<-d.length, <-c.length];exact i);refine Z3 (.ref ↑3) _ (I.laid (λb C q=>hP0 _ q) (à _) ?_) rfl (n (λw=>z (c.nil_iff.mpr w)) _ (I.hok.fresh (à _)));exact⟨by rw[lA];exact i,_,d.append c,IsTup.new _ _⟩
end
noncomputable def Af(n:Nat)(i:Int):Option Nat:=if 0<=i then(if i<n then some i.toNat else none)else if -(n:Int)<=i then some (i+n).toNat else none
def qF{α:Type}(xs:List α)(i:Int):Option α:=(Af ↑8 i).bind λj=>xs[j]?
theorem SO(h:Af n i=some j):seqIndex? i n=some j/\j<n/\ - n <=i/\i<n:=by
 unfold Af at h;by_cases b:0<=i
 .rw[iP b]at h;by_cases a:i<n
  .rw[iP a]at h;exact⟨by rw[seqIndex_of b a,(å h)],by lia,by lia,a⟩
  .rw[iN0 a]at h;cases h
 .rw[iN0 b]at h;by_cases a: -(n:Int)<=i
  .rw[iP a]at h;exact⟨by rw[seqIndex_neg #[0] a,(å h)],by lia,a,by lia⟩
  .rw[iN0 a]at h;cases h
def SQ(h:qF xs i=some v): ∃j,seqIndex? i ↑8=some j/\xs[j]? =some v/\j<↑8/\ - ↑8 <=i/\i<xs.length:=by
 unfold qF at h
 cases e:Af ↑8 i with
 |none=>rw[e]at h;cases h
 |some j=>
  rw[e]at h;refine(SO e).k λc b d a=>?_;exact⟨j,c,h,b,d,a⟩
theorem atI_nat{j:Nat}(h:xs[j]? =some v):qF xs  j =some v:=by
 have a:=(gS.mp h).1;have e:Af ↑8 (j:Int)=some j:=by unfold Af;rw[iP #[0],iP #[0]];simp
 unfold qF;rw[e];exact h
def SR(b:Expr):Prop:= ∀o i,subscripted b false o i=operate [o,i] (getItem o i)
def IxR(X:Cx)(r:R2):Prop:=
 ∀(b a:Expr)(pins:L1)(s:ŀ)(σ:St)(H:Hp)(x y:V)(v u:Ł)(Q:VK),Inv X pins σ H s->RelV x v->RelV y u->r x y H Q->
  subscripted a false v u=operate [v,u] (getItem v u)->wpAny ↑5 X.A (subscriptTail b a v u) (EP X pins σ Q) X.xe s
def M7(X:Cx)(id:String)(r:V->List V->Hp->VK->Prop):Prop:=
 ∀(pins:L1)(s:ŀ)(σ:St)(H:Hp)(x:V)(xs:List V)(v:Ł)(a:A0)(Q:VK),Inv X pins σ H s->RelV x v->Vals xs a->r x xs H Q->
  wpAny ↑5 X.A (call (.builtin id) (v::a)) (EP X pins σ Q) X.xe s
section
variable{a b:Expr}
def IxR.or(h:IxR X r)(h':IxR X r'):IxR X (λx y H Q=>r x y H Q\/r' x y H Q):=by
 intro a b pins s σ H x y v u Q I d c q hs;rcases q with q|q
 .exact h a b pins s σ H x y v u Q I d c q hs
 .exact h' a b pins s σ H x y v u Q I d c q hs
def zBP(K:P0):R2:=λx y H Q=> ∃p xs i v,x=.ref p/\y=.int i/\SqL K H p xs/\qF xs i=some v/\Q v H
def zBQ(K:P0):R2:=λx y H Q=> ∃p xs i v,x=.ref p/\y=.int i/\SqT K H p xs/\qF xs i=some v/\Q v H
def zBR:R2:=λx y H Q=> ∃z i c,x=.str z/\y=.int i/\z.length<=sizeLine/\qF z.cps.toList i=some c/\Q (.str ⟨#[c]⟩) H
theorem Uj:IxR X (zBP X.K):=by
 intro m n pins s σ H x y v u Q I J F h hs;refine h.o λp xs i z P R C B q=>?_;subst P;subst R;cases J;obtain⟨t,rfl⟩:=F;refine(I.list C).c λd r k O=>?_;refine(SQ B).elim λj g=>g.h λb G M E D=>?_;refine(r.get G).a λw A c=>?_;have L:=r.length;have N:=GQ;have a:EP X pins σ Q w s:=(Z3 z H I c q)
 by_cases o:0<=i
 .have e:=by rw[seqIndex_of o D]at b;exact å b
  exact item_listR k.isList o #[0] (by rw[e];simpa using A) a hs
 .have e:(i+(d.toArray.size:Int)).toNat=j:=by rw[seqIndex_neg #[0] E]at b;rw[sA, <-L];exact å b
  exact subscriptTail_builtinR k.isList.typeIs slot_list_getitem.lookup
   (wpAny_getItem_list_neg k.isList #[0] (by rw[sA]<;>lia) #[0] (by rw[e];simpa using A) ⟨rfl,a⟩) hs
theorem ix_tup:IxR X (zBQ X.K):=by
 intro b c pins s σ H x y v u Q I B o h hs;refine h.o λp xs i z L M k e q=>?_;subst L;subst M;cases B;obtain⟨t,rfl⟩:=o;refine(I.tuple k).c λn r d J=>?_;refine(SQ e).elim λj g=>g.h λm A E F D=>?_;refine(r.get A).a λw C a=>?_;have G:=GQ
 exact subscriptTail_builtinR d.typeIs slot_tuple_getitem.lookup
  (getItem_tuple d #[0] #[0] (by rw[sA, <-(r.length)];exact m) (by simpa using C) ⟨rfl,((Z3 z H I a q))⟩) hs
theorem ix_str:IxR X zBR:=by
 intro a b pins s σ H x y v u Q I p n h hs;refine h.p λz i c D E B e q=>?_;subst D;subst E;obtain⟨t,rfl⟩:=p;obtain⟨C,rfl⟩:=n;refine(SQ e).elim λj g=>g.h λd o w m k=>?_;have r:z.cps.toList.length=z.length:=by simp[Str.length]
 rw[r]at d m k;have A:=GQ;exact tail_any (typeIs_str s z t) slot_str_getitem.lookup (getItem_str (by rw[(dF0 #[0]),(dF0 #[0]),Bool.or_false]) (by rw[d];simpa using o) (Z3 (.str ⟨#[c]⟩) H (I.tok _) ⟨_,rfl⟩ q)) hs
def rIx(K:P0):R2:=λx y H Q=>zBP K x y H Q\/zBQ K x y H Q\/zBR x y H Q
def Aq(a:A0)(n j)(u):Obj.mapSeq (·.setIfInBounds j u) {cls:=.type "list",data:=.seq a.toArray n}={cls:=.type "list",data:=.seq (a.set j u).toArray n}:=by simp[Obj.mapSeq]
def Inv.lst(I:↑1)(h:H p=some (.lst xs)):
  ∃(d:A0)(n:Nat),Vals xs d/\s.heap.get? p=some {cls:=.type "list",data:=.seq d.toArray n}/\↑8<=sizeLine:=by
 obtain⟨z,d,n,r,e⟩:=I.hok p _ h;exact Z3 d n r e z
def Inv.lstUpd{a:A0}(I:↑1)(h:H p=some (.lst xs))
  (ho:s.heap.get? p=some {cls:=.type "list",data:=.seq a.toArray n}) (hf:f {cls:=.type "list",data:=.seq a.toArray n}={cls:=.type "list",data:=.seq its'.toArray n'}) (r:Vals ys its') (hz:ys.length<=sizeLine) (t):
  Inv X pins σ (yQ H p (.lst ys)) {s with heap:=s.heap.update p f,toks:=t}:=by
 have e:(s.heap.update p f).get? p=some {cls:=.type "list",data:=.seq its'.toArray n'}:=by rw[Ć f ho (by rw[hf]<;>rfl),hf]
 refine I.write (by rw[h];trivial) (.inl rfl) (λb u c q=>(ó _ _ (Ne.symm c)).trans q) ⟨_,e⟩ ?_;exact⟨hz,its',n',r,e⟩
def zBS:V->V->V->Hp->(Hp->Prop)->Prop:=λo i v H Q=> ∃p xs k j,o=.ref p/\i=.int k/\H p=some (.lst xs)/\Af ↑8 k=some j/\Q (yQ H p (.lst (xs.set j v)))
theorem SS(lo hi)(n):(sliceBounds lo hi none n).1=((HT.sIx n 0 lo:Nat))/\(sliceBounds lo hi none n).2.1=((HT.sIx n n hi:Nat))/\(sliceBounds lo hi none n).2.2=1:=by
 refine⟨?_,?_,rfl⟩
 .cases lo with
  |none=>simp[sliceBounds,HT.sIx]
  |some i=>
   simp only[sliceBounds,HT.sIx,Option.getD_none,if_true];by_cases h:i<0
   .simp only[h,if_true]<;>lia
   .simp only[h,iF]<;>lia
 .cases hi with
  |none=>simp[sliceBounds,HT.sIx]
  |some i=>
   simp only[sliceBounds,HT.sIx,Option.getD_none,if_true];by_cases h:i<0
   .simp only[h,if_true]<;>lia
   .simp only[h,iF]<;>lia
theorem OM(a:A0)(lo hi):slicePick a.toArray lo hi none=((a.drop (HT.sIx a.length 0 lo)).take (HT.sIx a.length a.length hi - HT.sIx a.length 0 lo)).toArray:=by refine(SS lo hi a.toArray.size).e λc d b=>?_;unfold slicePick;rw[c,d,b];simp only[sliceRange_one,pick_run]<;>rfl
def rSlL(K:P0):V->Option Int->Option Int->Hp->VK->Prop:=λx lo hi H Q=> ∃a xs,x=.ref a/\SqL K H a xs/\ ∀p,H p=none->Q (.ref p) (yQ H p (.lst (Hx xs lo hi)))
theorem Uk:SlR X (rSlL X.K):=by intro pins s σ H x v p o lo hi sl Q I m hs n j h;refine h.b λa xs g e q=>?_;subst g;cases m;refine(I.list e).c λi r d k=>?_;have c:=r.length;refine Z3 _ _ slot_list_getitem.lookup d.isList.typeIs ?_;refine wpAny_getItem_list_slice d.isList hs n j .none (by simp) ?_ (by rw[sA]<;>lia);rw[OM, <-c];refine Z3 (.ref ↑3) _ (I.laid (λb u q=>hP0 _ q) (à _) ?_) rfl (q _ (I.hok.fresh (à _)));exact⟨í (IE xs lo hi) k,_,0,(r.drop _).take _,ä _ rfl⟩
noncomputable def tO:V->Bool
 |.non=>true
 |.bl _=>true
 |.int _=>true
 |.str _=>true
 |_=>false
noncomputable def Ul:V->V->Bool
 |.non,.non=>true
 |.bl a,.bl b=>a==b
 |.bl a,.int b=>(if a then 1 else 0)==b
 |.int a,.bl b=>a==(if b then 1 else 0)
 |.int a,.int b=>a==b
 |.str a,.str b=>a==b
 |_,_=>false
def M9(e:RelV y u)(c:RelV x v)(i:tO y=true)(h:tO x=true):SeqAt.EqAt A s u v (Ul y x):=by
 cases y with
 |non=>
  cases e
  cases x with
  |non=>cases c;exact SeqAt.EqAt.same _
  |bl b=>cases c;exact SeqAt.EqAt.none_bool b
  |int b=>obtain⟨t,rfl⟩:=c;exact SeqAt.EqAt.none_int b t
  |str b=>obtain⟨t,rfl⟩:=c;exact SeqAt.EqAt.none_str b t
  |_=>exact absurd h xF0
 |bl a=>
  cases e
  cases x with
  |non=>cases c;exact SeqAt.EqAt.bool_none a
  |bl b=>cases c;exact SeqAt.EqAt.bool_bool a b
  |int b=>obtain⟨t,rfl⟩:=c;exact SeqAt.EqAt.bool_int a b t
  |str b=>obtain⟨t,rfl⟩:=c;exact SeqAt.EqAt.bool_str a b t
  |_=>exact absurd h xF0
 |int a=>
  obtain⟨d,rfl⟩:=e
  cases x with
  |non=>cases c;exact SeqAt.EqAt.int_none a d
  |bl b=>cases c;exact SeqAt.EqAt.int_bool a d b
  |int b=>obtain⟨t,rfl⟩:=c;exact SeqAt.EqAt.int_int a d b t
  |str b=>obtain⟨t,rfl⟩:=c;exact SeqAt.EqAt.int_str a d b t
  |_=>exact absurd h xF0
 |str a=>
  obtain⟨d,rfl⟩:=e
  cases x with
  |non=>cases c;exact SeqAt.EqAt.str_none a d
  |bl b=>cases c;exact SeqAt.EqAt.str_bool a d b
  |int b=>obtain⟨t,rfl⟩:=c;exact SeqAt.EqAt.str_int a d b t
  |str b=>obtain⟨t,rfl⟩:=c;exact SeqAt.EqAt.str_str a d b t
  |_=>exact absurd h xF0
 |_=>exact absurd i xF0
theorem SV:CallR X (.builtin "len") (λxs H Q=> ∃z,xs=[.str z]/\z.length<=sizeLine/\Q (.int z.length) H):=by intro pins s σ H xs b Q I r h;refine h.c λz d c q=>?_;subst d;obtain⟨u,rfl,t,rfl⟩:=vals1 r;have a:=GQ;exact len_str #[0] (Z3 (.int z.length) H (I.tok _) ⟨_,rfl⟩ q)
def CallR.or(h:CallR X f r)(h':CallR X f r'):CallR X f (λxs H Q=>r xs H Q\/r' xs H Q):=by
 intro pins s σ H xs a Q I b q;rcases q with q|q
 .exact h pins s σ H xs a Q I b q
 .exact h' pins s σ H xs a Q I b q
theorem pF:CallR X (.type "list") (λxs H Q=> ∃p ys,xs=[.ref p]/\(SqL X.K H p ys\/SqT X.K H p ys)/\ ∀l,H l=none->Q (.ref l) (yQ H l (.lst ys))):=by
 intro pins s σ H xs B Q I r h;refine h.b λp ys g c q=>?_;subst g;refine(vals1 r).a λu C A=>?_;subst C;cases A
 have i: ∀(a:A0),Vals ys a->ys.length<=sizeLine-> ∀(h':Heap)(c':Nat),_->
   h'.get? ↑3=some {cls:=.type "list",dict:=none,data:=.seq a.toArray c',slots:=#[]}->EP X pins σ Q _ {s with heap:=h'}:=λa b k h' c' j e=>
  (Z3 (.ref ↑3) _ (I.laid j (à _) (show ObjOk X.prog X.w _ h' _ (.lst ys)from⟨k,a,c',b,e⟩)) rfl (q _ (I.hok.fresh (à _))))
 rcases c with c|c
 .obtain⟨a,b,v,k⟩:=I.list c;have d:=b.length;obtain⟨o,y,z,n,m⟩:=v.isList;exact call_list_seq p (.inl rfl) y z m (λh' c' j e=>i a b k h' c' j e) (by simp only[sA]<;>lia)
 .obtain⟨a,b,v,k⟩:=I.tuple c;have d:=b.length;obtain⟨o,y,z,n,m⟩:=v;exact call_list_seq p (.inr rfl) y z m (λh' c' j e=>i a b k h' c' j e) (by simp only[sA]<;>lia)
theorem sQ:CallR X (.type "tuple") (λxs H Q=> ∃p ys,xs=[.ref p]/\((SqL X.K H p ys/\ ∀l,H l=none->Q (.ref l) (yQ H l (.tup ys)))\/(SqT X.K H p ys/\Q (.ref p) H))):=by
 intro pins s σ H xs v Q I r h;obtain⟨p,ys,rfl,h⟩:=h;refine(vals1 r).a λu g n=>?_;subst g;cases n;rcases h with⟨hq,q⟩|⟨hq,q⟩
 .refine(I.list hq).c λa c d i=>?_;have j:=c.length;refine call_tuple_list d.isList (λh' k=>?_) (by simp only[sA]<;>lia);have I1:Inv X pins σ H {s with heap:=h'}:=I.kept k
  have m:Inv X pins σ (yQ H h'.objs.size (.tup ys)) {s with heap:=h'.push {cls:=.type "tuple",data:=.seq a.toArray}}:=
   I1.laid (λb o e=>hP0 _ e) (à _) (⟨i,a,c,IsTup.new _ _⟩)
  exact Z3 (.ref h'.objs.size) _ m rfl (q _ (I1.hok.fresh (à _)))
 .refine(I.tuple hq).c λa c d i=>?_;exact call_tuple_same d (Z3 (.ref p) H I rfl q)
def zEH(K:P0)(T:String)(x:V)(H:Hp):Prop:=match x with
 |.str _=>T="str"
 |.int _=>T="int"
 |.ref p=>(T="list"/\ ∃xs,SqL K H p xs)\/(T="tuple"/\ ∃o,K.lookup p=some o/\o.cls=.type "tuple"/\o.dict=none)\/
   (T="dict"/\((∃a,H p=some (.dK a))\/ ∃a,H p=some (.dT a)))\/(T="set"/\ ∃S n,H p=some (.set S n))
 |_=>False
def Ma(I:↑1)(r:RelV x v)(d:zEH X.K T x H):
  s.TypeIs v T/\ ∀a,v=.ref a-> ∃m,s.heap.get? a=some m/\m.dict=none:=by
 cases x with
 |str z=>
  obtain⟨t,rfl⟩:=r;cases d;exact⟨typeIs_str s z t,λ_ e=>nomatch e⟩
 |int i=>
  obtain⟨t,rfl⟩:=r;cases d;exact⟨typeIs_int s i t,λ_ e=>nomatch e⟩
 |ref p=>
  cases r;rcases d with⟨rfl,xs,hq⟩|⟨rfl,o,hk,hc,j⟩|⟨rfl,hk⟩|⟨rfl,S,n,hk⟩
  .refine(I.list hq).c λq _ k _=>?_;refine⟨k.isList.typeIs,λa e=>?_⟩;cases e;refine k.g λo n e c j _=>?_;exact⟨o,e,j⟩
  .refine⟨⟨o,I.kIn p o hk,hc⟩,λa e=>?_⟩;cases e;exact⟨o,I.kIn _ o hk,j⟩
  .have z: ∃o,s.heap.get? p=some o/\o.ExactDict:=by
    rcases hk with⟨kvs,hk⟩|⟨kvs,hk⟩
    .obtain⟨_,_,_,_,o,_,_,e,b,_⟩:=I.hok p _ hk;exact⟨o,e,b⟩
    .obtain⟨_,_,_,_,o,_,_,e,b,_⟩:=I.hok p _ hk;exact⟨o,e,b⟩
   obtain⟨o,e,b⟩:=z;refine⟨⟨o,e,b.1⟩,λa h=>?_⟩;cases h;exact⟨o,e,b.2.1⟩
  .refine(I.hok p _ hk).i λo _ _ _ g=>g.e λe b _=>?_;refine⟨⟨o,e,b.1⟩,λa h=>?_⟩;cases h;exact⟨o,e,b.2.1⟩
 |_=>exact False.elim d
def tBM0(K:P0)(T:String)(r:V->List V->Hp->VK->Prop)(b:TE):TE:=λσ H Q=>b σ H λx a=>zEH K T x a/\r x [] a Q
def tBM(K:P0)(T:String)(r:V->List V->Hp->VK->Prop)(c:TE)(t:TA):TE:=λσ H Q=>c σ H λx a=>zEH K T x a/\t σ a λxs b=>r x xs b Q
variable{apos cpos:Pos}{id:String}
def N2(e:PlainAttrs T)(a:Slot T name id)(b:↑37)(j:M7 X id r)(ho:PE X o to)
  (hbase:attributeBase o name X.env (eval o X.env)=eval o X.env:=by rfl) (hline:(apos.endLine==cpos.line)=true:=by rfl):PE X (.Call (.Attribute o name apos) [] [] cpos) (tBM0 X.K T r to):=by
 intro pins s σ H Q I h;refine wpAny_Call_method0_late hbase hline (wU (ho pins s σ H _ I h) λv s1 ⟨x,n,I1,c,k,m⟩=>?_);obtain⟨d,i⟩:=Ma I1 c k;exact Y9 T id ⟨e,a,b,d,i,Calls.callWith_builtin rfl (PySem.evalArgs_none (j pins s1 σ n x [] v [] Q I1 c .nil m))⟩
def zBT(n:PlainAttrs T)(a:Slot T name id)(b:↑37)(y:M7 X id r)(ho:PE X o to)(C:PA X (e::es) t)
  (hbase:attributeBase o name X.env (eval o X.env)=eval o X.env:=by rfl)
  (hfew:((backTo cpos (starEach (e::es) X.env)).all (λx=>!x.1)&&(backToKw cpos (keywordEach [] X.env)).all (λx=>x.1.isSome)
   &&decide ↑9)=true:=by rfl)
  (hline:(apos.endLine==cpos.line)=true:=by rfl) (hs:q8 X e es:=by rfl) (hplain:(backTo cpos (starEach es X.env)).any (·.1)=false:=by rfl):
  PE X (.Call (.Attribute o name apos) (e::es) [] cpos) (tBM X.K T r to t):=by
 intro pins s σ H Q I h;refine wpAny_Call_method_late hbase hfew hline rfl (wU (ho pins s σ H _ I h) λv s1 ⟨x,D,I1,d,z,B⟩=>?_);obtain⟨k,q⟩:=Ma I1 d z;refine Y9 T id ⟨n,a,b,k,q,?_⟩;have c:=C cpos pins s1 σ D _ I1 B;rw[hs]at c ⊢;refine Calls.callWith_builtin (by show(false || (backTo cpos _).any (·.1))=false;rw[hplain]<;>rfl) (Calls.evalArgs_plain ?_);exact wU c λu A ⟨m,j,p,i,w⟩=>y pins A σ j x m v u Q p d i w
end
def MtM(X:Cx)(id:String)(r:V->List V->Hp->VK->Prop):Prop:=
 ∀(pins:L1)(s:ŀ)(σ:St)(H:Hp)(x:V)(xs:List V)(v:Ł)(a:A0)(Q:VK),Inv X pins σ H s->RelV x v->Vals xs a->r x xs H Q->
  wpAny ↑5 X.A (call (.builtin id) (v::a)) (EP X pins σ Q) X.xe s
def Vals.one: ∀{x}{d},Vals [x] d-> ∃u,d=[u]/\RelV x u
 |_,_,.cons r .nil=>⟨_,rfl,r⟩
theorem Vals.zero: ∀{d},Vals [] d->d=[]
 |_,.nil=>rfl
theorem Vals.eraseIdx: ∀{xs}{d} i ,Vals xs d->Vals (xs.eraseIdx i) (d.eraseIdx i)
 |_,_,_,.nil=>.nil
 |_,_,0,.cons _ t=>t
 |_,_,i+1,.cons r t=>.cons r (Vals.eraseIdx i t)
def Vals.reverse(h:Vals xs us):Vals xs.reverse us.reverse:=by
 induction h with
 |nil=>exact .nil
 |cons r t ih=>rw[reverse_cons,reverse_cons];exact Vals.append ih (.cons r .nil)
theorem Vals.rep(h:Vals xs us): ∀k:Nat,Vals (List.replicate k xs).flatten (List.replicate k us).flatten
 |0=>.nil
 |k+1=>by exact Vals.append h (Vals.rep h k)
theorem QE{α:Type}: ∀(l:List α) i ,(l.eraseIdx i).length<=l.length
 |[],_=>à _
 |_::_,0=>le_succ _
 |_::r,i+1=>Ġ (QE r i)
theorem foldl_rep(its): ∀ k (d:A0),
  List.foldl (λq m=>q++m) d.toArray (List.replicate k its.toArray)=(d++(List.replicate k its).flatten).toArray
 |0,d=>by simp
 |k+1,d=>by
  have e:d.toArray++its.toArray=(d++its).toArray:=by simp
  have a:(d++its)++(List.replicate k its).flatten=d++(List.replicate (k+1) its).flatten:=by rw[Ŀ,flatten_cons,aA]
  rw[<-a, <-foldl_rep its k _, <-e,Ŀ,List.foldl_cons]
section
def Inv.lset{a:A0}(I:↑1)(c:H l=some (.lst xs))
  (e:s.heap.get? l=some {cls:=.type "list",data:=.seq a.toArray n}) (hf:f a.toArray=its'.toArray) (hv:Vals ys its') (hz:ys.length<=sizeLine):
  Inv X pins σ (yQ H l (.lst ys)) {s with heap:=s.heap.update l (Obj.mapSeq f),toks:=t'}:=by
 have q:=PySem.IsL.update e f;rw[hf]at q;refine I.write (by rw[c];exact trivial) (.inl rfl) (λh u d b=>(ó s.heap _ (Ne.symm d)).trans b) ⟨_,q⟩ ?_;exact⟨hz,its',_,hv,q⟩
def Inv.lnew(I:↑1)(a:Vals ys its)(b:ys.length<=sizeLine):
  Inv X pins σ (yQ H ↑3 (.lst ys)) {s with heap:=s.heap.push {cls:=.type "list",data:=.seq its.toArray},toks:=t'}:=
 I.laid (λ_ _ q=>hP0 _ q) (à _) ⟨b,its,0,a,ä _ rfl⟩
def Inv.fresh(I:↑1):H ↑3=none:=I.hok.fresh (à _)
def Inv.lstM(I:↑1)(a:H l=some (.lst xs)):↑8<=sizeLine/\ ∃(d:A0)(n:Nat),Vals xs d/\↑8=d.length/\s.heap.get? l=some {cls:=.type "list",data:=.seq d.toArray n}:=by obtain⟨z,d,n,r,e⟩:=I.hok l _ a;exact⟨z,d,n,r,r.length,e⟩
theorem WL(h:n<=sizeLine):Builtin.List.listTooLong n=false:=by exact dF0 #[0]
end
section
def Dp:V->List V->Hp->VK->Prop:=λx a H Q=> ∃l xs y,x=.ref l/\a=[y]/\H l=some (.lst xs)/\↑8<sizeLine/\Q .non (yQ H l (.lst (xs++[y])))
def Dq:V->List V->Hp->VK->Prop:=λx c H Q=> ∃l b xs a,x=.ref l/\c=[.ref b]/\H l=some (.lst xs)/\H b=some (.lst a)/\↑8+a.length<=sizeLine/\Q .non (yQ H l (.lst (xs++a)))
def WM:V->List V->Hp->VK->Prop:=λx a H Q=> ∃l xs,x=.ref l/\a=[]/\H l=some (.lst xs)/\Q .non (yQ H l (.lst xs.reverse))
def rCat:R2:=λx y H Q=> ∃l b xs a,x=.ref l/\y=.ref b/\H l=some (.lst xs)/\H b=some (.lst a)/\↑8+a.length<=sizeLine/\ ∀p,H p=none->Q (.ref p) (yQ H p (.lst (xs++a)))
theorem N3:OpR X (binaryOp .Add) rCat:=by
 intro pins s σ H x y v u Q I w m h;refine h.i λl b xs B g=>g.f λF G k i D q=>?_;subst F;subst G;cases w;cases m;obtain⟨z,c,n,r,E,e⟩:=I.lstM k;obtain⟨A,a,C,d,j,o⟩:=I.lstM i;refine PySem.P.add_list e o ?_ (by rw[sA,sA];lia);have p:c.toArray++a.toArray=(c++a).toArray:=by simp
 rw[p];exact Z3 (.ref _) _ (I.lnew (r.append d) (by rw[lA];lia)) rfl (q _ I.fresh)
def rRep:R2:=λx y H Q=> ∃l k xs,x=.ref l/\y=.int k/\H l=some (.lst xs)/\ -(2 ^ 63)<=k/\k<2 ^ 63/\↑8 * k.toNat<=sizeLine/\
 ∀p,H p=none->Q (.ref p) (yQ H p (.lst (List.replicate k.toNat xs).flatten))
def len_rep{α:Type}(xs:List α)(k):(List.replicate k xs).flatten.length=k * xs.length:=by
 induction k with
 |zero=>simp
 |succ k ih=>rw[Ŀ,flatten_cons,lA,ih,Nat.succ_mul,Nat.add_comm]
theorem N4:OpR X (binaryOp .Mult) rRep:=by
 intro pins s σ H x y v u Q I K E h;refine h.l λl k xs g=>g.t λM N C B J A q=>?_;subst M;subst N;cases K;obtain⟨t,rfl⟩:=E;obtain⟨z,b,n,r,L,e⟩:=I.lstM C;have i:b.toArray.size * k.toNat<=sizeLine:=by rw[sA, <-L];exact A
 have j: ¬b.toArray.size * k.toNat>(2 ^ 63 - 1) / 8:=by
  have:(sizeLine:Nat)<=(2 ^ 63 - 1) / 8:=by decide
  lia
 have o: ¬(!Builtin.List.listFitsIndex k)=true:=by rw[fitsIndex_both B J];exact xF0
 have c: ¬Builtin.List.listTooLong (b.toArray.size * k.toNat)=true:=by rw[WL i];exact xF0
 have d:List.foldl (λw p=>w++p) #[] (List.replicate (if b.toArray.isEmpty=true then 0 else k.toNat) b.toArray)=(List.replicate k.toNat b).flatten.toArray:=by
  have D: ∀m:Nat,List.foldl (λw p=>w++p) #[] _=(List.replicate m b).flatten.toArray:=λm=>by have:=foldl_rep b m [];exact this
  rw[D]
  cases b with
  |nil=>simp
  |cons a r'=>rw[iN0 (by simp)]
 refine wpAny_binaryOp_repeat_ref ↑4 ⟨_,e,rfl⟩ (λG=>typeIs_int G k t) noFill_list_mul F.fills_int_mul F.slot_int_rmul repeat_list F.slot_int_index.lookup
  (call_meets F.slot_int_rmul (typeIs_int s k t) F.entry_int_rmul (F.args_int_rmul_2 _ _) (int___rmul___int_list k t l b.toArray n)
   ⟨e,rfl,⟨_,e,rfl⟩,call_meets F.slot_list_mul ⟨_,e,rfl⟩ F.entry_list_mul (F.args_list_mul_2 _ _) (AutoListH.list___mul___list_int_3 l b.toArray n k t o j c) ⟨e,?_⟩⟩)
 rw[d];exact Z3 (.ref _) _ (I.lnew (r.rep k.toNat) (by rw[len_rep,Nat.mul_comm];exact A)) rfl (q _ I.fresh)
end
end L2
namespace Att
open PySem PySem.W PySem.Calls PyProof.Rows
def JG: ∀ ns  vs ,WellAll P h vs (ns.map WData.int)->IntsAre vs ns:=by
 intro ns
 induction ns with
 |nil=>
  intro vs w;cases w;exact .nil
 |cons n ns ih=>
  intro vs w
  cases w with
  |cons a b=>
   cases a;exact .cons _ _ (ih _ b)
theorem Ia{l:OpenLaw}(j:l.most=some n)
  (hpre:l.row.toRowW.claim.pre args=true) (hwl:WellAll P h vals args):
  ∃a vs ns,vals=[Value.ref a]/\args=[WData.list (ns.map WData.int)]/\h.get? a=some {cls:=.type "list",data:=.seq vs.toArray}/\IntsAre vs ns/\ns.length<=n:=by
 have e:=(pre_splitW hpre).1;have s:l.pre.holds [] {args:=args}=true:=(pre_splitW hpre).2;refine(hasAllW_cons e).b λd r g k o=>?_;subst g;obtain rfl:=hasAllW_nil o;refine(hasW_list k).a λxs u p=>?_;subst u;obtain⟨ns,rfl⟩:=items_int p
 have b:ns.length<=n:=by
  have c:=by have c:=(holds_andW s).1;rw[j]at c;exact c
  have i:=condW_of c (w_not (w_lt w_lit (w_len_list (w_arg rfl))));refine Nat.le_of_not_lt λq=>?_;have m:=by omega
  first
   |(rw[dT0 m]at i;exact absurd i (by decide))
   |(simp at i;lia)
 cases hwl with
 |cons w1 w2=>
  cases w2
  cases w1 with
  |list ho hall=>exact Y6 _ _ ns rfl rfl ho (JG ns _ hall) b
def attach_call{l:OpenLaw}
  (hn:l.most=some n) (hdf:d.params.defaults=[])
  (call: ∀ w  u m  mg J  z  o  I B v  a  vs  ns ,
   Ground q loose [] XP w u mg J m.heap->YP w m.heap->
   m.heap.get? z=some o->o.data=.func (docDef d.name d.params d.body d.scope I B v)->m.heap.CodeRec B d.name->mg d.name=some (.ref z)->
   m.heap.get? a=some {cls:=.type "list",data:=.seq vs.toArray}->IntsAre vs ns->ns.length<=n->m.gens=#[]->
   codeAny (model l.prog w) callerA (.call (.ref z) ⟨[.ref a],[]⟩) (λr D=>r=.ok (.ret (.bool true))/\OldK m.heap D.heap/\D.os=m.os/\AllBare D.gens) m):
  WalkO q loose XP YP l.row.toRowW d [] (λf vs=>PySem.call f vs):=by
 intro w u m mg J G Y z o I B v E kV M H j A i F p s as h y P k N;obtain rfl:E=.none:=Dflts.none A hdf;obtain rfl:kV=.none:=Dflts.noKw A;refine(Ia hn h k).p λa vs ns g R e b c=>?_;subst g;subst R;refine enter_call (Ė (call w u m mg J z o I B v a vs ns G Y M (fd_plain H) j i e b c F) λr D C=>?_);refine C.k λT O K L=>?_;subst T;exact⟨.inl (Y6 _ _ ([]) rfl (λ_=>rfl) (.bool true) (postW_of
    (by first |rfl|decide|simp[WShape.has,WShape.arms,WShape.armsAll])
    (w_eq_bool (w_res rfl) w_lit) rfl) (λ_=>⟨List.Pairwise.nil,λ_ Q=>(nomatch Q)⟩)),O,K,L⟩
end Att
namespace L2
open PySem PySem.Spec PyProof.Rows
def Ic: ∀{vs}{ns},IntsAre vs ns->Vals (ns.map V.int) vs:=λa=>by
 induction a with
 |nil=>exact .nil
 |cons n t h ih=>exact .cons ⟨t,rfl⟩ (ih)
def Mb(H:Hp):Prop:= ∀b,H b=none\/ ∃o xs,H b=some (.frz o (.lst xs))
def Mc{K:P0}
  (KX:K.In s₁.heap) (hns:s₁.heap.Ns mainGlobals mg) (B:s₁.heap.Ns builtinsNs mb) (hbb: ∀x:Str,x≠"__name__"->mb x=bootBuiltins x) (hlim:s₁.heap.NoLimit) (hg:s₁.gens=#[])
  (ha:s₁.heap.get? a=some {cls:=.type "list",data:=.seq vs.toArray}) (hi:IntsAre vs ns) (hl:ns.length<=sizeLine) (hr:Room k callerA)
  (F: ∀base:Heap,K.In base->base.Ns mainGlobals mg->FnOk P w K mg base CX k fa fd [x] sp) (hbind: ∀ s  u ,BindsTo s fd ⟨[u],[]⟩ [(x,u)])
  (hsp: ∀H:Hp,Mb H->SqL K H a (ns.map V.int)->sp [.ref a] H (λv _=>v=.bl true) λ_ _ _=>False)
  (hCX: ∀H e D,CX [] H s₁ (λ_ _ _=>False) e D->False):
  codeAny (model P w) callerA (.call (.ref fa) ⟨[.ref a],[]⟩) (λr D=>r=.ok (.ret (.bool true))/\OldK s₁.heap D.heap/\D.os=s₁.os/\AllBare D.gens) s₁:=by
 have O:=Ic hi
 have j: ∀H:Hp,Mb H->SqL K H a (ns.map V.int)->HOk P w H s₁.heap->(∀b,H b≠none->b=a)->(H a≠none->K.lookup a=none)->
   codeAny (model P w) callerA (.call (.ref fa) ⟨[.ref a],[]⟩) (λr D=>r=.ok (.ret (.bool true))/\OldK s₁.heap D.heap/\D.os=s₁.os/\AllBare D.gens) s₁:=by
  intro H L Z E M T;have c: ∀{b:Addr}{o:Obj},s₁.heap.get? b=some o->H b=none->(Hn s₁.heap H).get? b=some o:=λe n=>(PySem.W.hideAll_get _ e λhm=>by have q:=(Ā.mp hm).2;rw[n]at q;simp at q)
  have G: ∀{b:Addr}{o:Obj}{es:Array DictEntry}{ep:Nat},s₁.heap.get? b=some o->o.data=.dict es ep->H b=none:=λ{b o es ep} e d=>by
   cases q:H b with
   |none=>rfl
   |some u=>
    have I:=M b (by rw[q];simp);subst I;rw[ha]at e;cases e;cases d
  have i: ∀{b:Addr}{m:K0},s₁.heap.Ns b m->(Hn s₁.heap H).Ns b m:=λ{b m} ⟨o,es,ep,e,d,r⟩=>(Y3 o es ep (c e (G e d)) d r)
  have C:=λb o e=>c (KX b o e) (by
   cases q:H b with
   |none=>rfl
   |some u=>
    have I:=M b (by rw[q];simp);subst I;rw[T (by rw[q];simp)]at e;cases e)
  refine Ė ((F _ C (i hns)).run callerA [] s₁ H ⟨_,[]⟩ [.ref a] [.ref a] _ _ hr (⟨rfl,(⟨C,i hns,(Z8 mb (i B) hbb),let ⟨Q,S,Y⟩:=hlim;(Z8 Q (i S) Y)⟩),λb o e=>Tp e,Nat.le_of_eq ((PySem.W.hideAll_size _ _)),trivial,λb B=>absurd (show b∈([]:B9)from B) (by simp),E,.of_eq hg⟩) (hbind s₁ _) (.cons rfl .nil) (hsp H L Z)) λr D h=>?_
  cases r with
  |error e=>exact(hCX H e D h).elim
  |ok fl=>
   cases fl with
   |next=>exact False.elim h
   |brk=>exact False.elim h
   |cont=>exact False.elim h
   |ret u=>
    refine h.j λv H' g=>g.f λos A un p U q=>?_;subst q;obtain rfl:u=Value.bool true:=U;refine⟨rfl,OldK.of_keep λb o e=>?_,os,A⟩
    cases q:H b with
    |none=>exact un.keep b o e q (by intro z;exact absurd (show b∈([]:B9)from z) (by simp)) (by simp)
    |some u=>
     rcases L b with z|⟨ob,xs,z⟩
     .rw[q]at z;cases z
     .have X:=un.frzs b ob _ z;obtain⟨N,_⟩:=E b _ z;obtain⟨e2,_⟩:=p b _ X;rw[e]at N;cases N;exact e2
 cases J:K.lookup a with
 |some o=>
  have e:=KX a o J;rw[ha]at e;cases e;refine j (λ_=>none) (λ_=>.inl rfl) (.inr (Yq _ _ _ ⟨J,rfl,rfl,rfl,(by rw[sA,(hi.length)];exact hl),(by simpa using O)⟩)) (λb u z=>by have y:_=some u:=z;cases y) (λb z=>absurd rfl z) λz=>absurd rfl z
 |none=>
  refine j (λb=>if b=a then some _ else none) (λb=>?_) (.inl (.inr ⟨{cls:=.type "list",data:=.seq vs.toArray},iP rfl⟩)) (λb u z=>?_) (λb z=>?_) λ_=>J
  .by_cases B:b=a
   .exact .inr ⟨_,_,iP B⟩
   .exact .inl (iN0 B)
  .by_cases B:b=a
   .have y:=(iP B).symm.trans z;cases y;subst B;exact⟨ha,by rw[lM0];exact hl,vs,_,O,ha⟩
   .have y:=(iN0 B).symm.trans z;cases y
  .by_cases B:b=a
   .exact B
   .exact absurd (iN0 B) z
def walk_of{l:PySem.W.OpenLaw}{K:Params->PySem.W.Frag}{CX:World->Hw}{sp:World->Sp}
  (hn:l.most=some n) (hn2:n<=sizeLine) (hdf:d.params.defaults=[]) (hr:Room k callerA)
  (hY: ∀ w  h ,YP w h->(K w.params).In h)
  (F: ∀ w  mg  z  h ,(K w.params).In h->h.Ns mainGlobals mg->mg d.name=some (.ref z)->
   ∃B:FuncData,(∀ s  u ,BindsTo s B ⟨[u],[]⟩ [(x,u)])/\
    ∀base:Heap,(K w.params).In base->base.Ns mainGlobals mg->FnOk l.prog w (K w.params) mg base (CX w) k z B [x] (sp w))
  (hsp: ∀ w  H  a (ns:Za),ns.length<=n->Mb H->SqL (K w.params) H a (ns.map V.int)->sp w [.ref a] H (λv _=>v=.bl true) λ_ _ _=>False)
  (hCX: ∀ w  H  s  e  D ,CX w [] H s (λ_ _ _=>False) e D->False):
  PySem.W.WalkO q loose XP YP l.row.toRowW d [] (λf vs=>PySem.call f vs):=by
 refine Att.attach_call hn hdf λw r j mg P z o N Q E a vs ns G Y O M I p m i c C=>?_;have KX:=hY w _ Y;refine(F w mg z _ KX G.T.g p).a λB A L=>?_;exact Mc KX G.T.g G.T.b G.T.builtins G.T.nolimit C m i (í c hn2) hr L A (λH y J=>hsp w H a ns c y J) λH e D=>hCX w H j e D
noncomputable def inClass(s:Stmt)(j:Nat):Stmt:=match s with
 |.ClassDef _ _ _ body _ _ _ _ _ _ _=>body.getD j (.Pass ⟨0,0,0,0⟩)
 |_=>.Pass ⟨0,0,0,0⟩
noncomputable def pG(s:Stmt):Arguments:=match s with
 |.FunctionDef _ a _ _ _ _ _ _ _ _=>a
 |_=>{posonlyargs:=[],args:=[],vararg:=none,kwonlyargs:=[],kw_defaults:=[],kwarg:=none,defaults:=[]}
noncomputable def wK(s:Stmt):List Stmt:=match s with
 |.FunctionDef _ _ b _ _ _ _ _ _ _=>b
 |_=>[]
noncomputable def zE(s:Stmt):Scope:=match s with
 |.FunctionDef _ _ _ _ _ _ sc _ _ _=>sc
 |_=>{kind:=.function,names:=[],isGenerator:=false,isCoroutine:=false}
abbrev EY:Hw:=λ_ _ _ _ _ _=>False
abbrev E0:XK:=λ_ _ _=>False
def zBU:SN EY X E0:=λ_ _ _ _ _ _ _ h=>h.elim
structure Fun(K:P0)(x qual:Str)(st:Stmt)(f:Addr)(fd:FuncData):Prop where
 ex: ∃(oc:Ł)(od:Option Addr)(kV doc pm:Ł)(an:Option Addr)(cdv ct:Ł)(osl:Array (Option Ł)),
  fd=PySem.W.fnOf x qual (pG st) (wK st) (zE st) .none kV doc pm an cdv ct/\K.lookup f=some ⟨oc,od,.func fd,osl⟩/\PySem.W.codeIn K cdv qual=true
 kp:PySem.W.keepIn K (.ref f)=true
section
variable{K:P0}
def Fun.ok{st:Stmt}(F:Fun K x qual st f fd)(S:FnScope N ps (zE st))(len: ∀vs H Q E,sp vs H Q E->↑47=ps.length)
  (hbody: ∀ d  A  outer  s  H  vs  Q  E ,Room k (A.deeper (envOfC qual (zE st) ↑3 f d))->sp vs H Q E->
   ∃t,PSs (JF EY P w K mg base N qual (zE st) f d A outer s H E).nox (wK st) t/\t {nx:=λ_ H'=>Q .non H',rt:=Q} (start N vs) H):FnOk P w K mg base EY (k+1) f fd ps sp:=by
 refine F.ex.r λo p kV j n m d r i g=>g.e λu e b=>?_;subst u;refine Zm e b S len λA outer s H vs Q E c a=>?_;refine(hbody d A outer s H vs Q E c a).a λt h q=>?_;exact Z8 t h.nox q
def Fun.binds{st:Stmt}(F:Fun K x qual st f fd)
  (h: ∀ kV d q  u  m ct  v ,v.length=ps.length->bindArgs (PySem.W.fnOf x qual (pG st) (wK st) (zE st) .none kV d q u m ct) ⟨v,[]⟩=pure (ps.zip v)):Binds K fd ps []:=by
 refine F.ex.r λc e kV d q u m ct a g=>g.e λj i b=>?_;subst j;exact .all (h kV d q u m ct)
def As{st:Stmt}{kV:Ł}(l:K.lookup f=some ⟨oc,od,.func (PySem.W.fnOf x qual (pG st) (wK st) (zE st) .none kV doc pm an cdv ct),osl⟩)
  (c:PySem.W.codeIn K cdv qual=true) (k:PySem.W.keepIn K (.ref f)=true):Fun K x qual st f (PySem.W.fnOf x qual (pG st) (wK st) (zE st) .none kV doc pm an cdv ct):=⟨(X8 oc od kV doc pm an cdv ct osl ⟨rfl,l,c⟩),k⟩
end
section
variable{X:Cx}
end
end L2
set_option maxHeartbeats 4000000
namespace L2
open PySem PySem.Spec PyProof.Rows
noncomputable def DR(env:Env)(l:List (Str×NameKind))(a:List (Str×Addr)):List (Str×Addr):=
 l.foldl (λc y=>if y.2==.free then(y.1,(env.cells.lookup y.1).getD 0)::c else c) a
def SX{α:Type}{l:List α}{f:α->β->Sem (ForInStep β)}{g:β->α->β}: ∀ c ,(∀x∈l, ∀c,f x c=pure (.yield (g c x)))->
  forIn l c f=pure (l.foldl g c):=by
 induction l with
 |nil=>intro c _;rfl
 |cons x l ih=>
  intro c h;rw[forIn_cons,h x mF0];exact ih _ λy a=>h y (mO _ a)
def ON(h: ∀y∈scope.names,y.2=.free-> ∃c,env.cells.lookup y.1=some c):closureFor scope env=pure (DR env scope.names []):=by
 unfold closureFor DR;dsimp only;rw[SX [] ?_]
 .rfl
 .intro y d c;obtain⟨n,k⟩:=y;by_cases b:k=.free
  .subst b;obtain⟨a,i⟩:=h _ d rfl;simp[cellOf,i]
  .have e:=by simpa using b
   simp[e]
theorem IF: ∀ l  d ,(∀y∈l,y.2=.free-> ∃c,env.cells.lookup y.1=some c)->(∀p∈d,env.cells.lookup p.1=some p.2)->
  ∀p∈DR env l d,env.cells.lookup p.1=some p.2
 |[],_,_,h=>h
 |(n,k)::l,d,hl,h=>by
  refine IF l _ (λy u=>hl y (mO _ u)) λp m=>?_;by_cases q:k=.free
  .subst q;obtain⟨c,v⟩:=hl _ mF0 rfl;have a:p∈_::d:=m;rcases mC.mp a with rfl|m
   .show env.cells.lookup n=some _;rw[v];rfl
   .exact h p m
  .have a:p∈(if _=true then _::d else d):=m;rw[iN0 (by simpa using q)]at a;exact h p a
theorem KY: ∀ l  d  p ,p∈d->p∈DR env l d
 |[],_,_,h=>h
 |_::l,d,p,h=>by
  refine KY l _ p ?_;show p∈(if _=true then _::d else d);split
  .exact mO _ h
  .exact h
theorem AU: ∀ l  d  n ,(n,NameKind.free)∈l-> ∃c,(n,c)∈DR env l d
 |[],_,_,h=>nomatch h
 |(m,k)::l,d,n,h=>by
  rcases mC.mp h with e|h
  .have q:=congrArg Prod.fst e;have a:=congrArg Prod.snd e;subst q a;exact⟨_,KY l _ _ mF0⟩
  .exact AU l _ n h
theorem dW{β:Type}: ∀{l:List (Str×β)}{n},(∃c,(n,c)∈l)-> ∃c,l.lookup n=some c
 |[],_,h=>let ⟨_,z⟩:=h;nomatch z
 |(m,b)::l,n,h=>by
  by_cases e:n=m
  .subst e;exact⟨b,by simp[ğ]⟩
  .obtain⟨c,d⟩:=h;rcases mC.mp d with z|z
   .cases z;exact absurd rfl e
   .obtain⟨a,h'⟩:=dW ⟨c,z⟩;refine⟨a,?_⟩;have i:(n==m)=false:=by simpa using e
    simp[ğ,i,h']
noncomputable def Um(a b:Scope):List (Str×NameKind):=a.names.map λ(n,k)=>if(k==.free&&b.kind==.function&&b.names.lookup n==some .cell)then(n,.cell)else(n,k)
noncomputable def AV(a:Scope)(N:C0)(b:Scope)(c:Db):Bool:=
 decide (b.kind=.function)&&b.names.all (λy=>decide (b.names.lookup y.1=some y.2))&&
 b.names.all (λy=>decide (y.2≠.free) || decide (a.names.lookup y.1=some .cell) || decide (a.names.lookup y.1=some .free))&&
 c.all (λi=>match N[i]? with
  |some y=>(decide (a.names.lookup y=some .cell) || decide (a.names.lookup y=some .free))&&decide (b.names.lookup y=some .free)
  |none=>false)
def rlS(b a:Scope):Scope:={b with names:=Um b a}
abbrev Lb(env:Env)(a:Scope)(C:Addr):List (Str×Addr):=cellsFrom (C+1) a.names (DR env a.names [])
theorem jH: ∀ l  n  d ,cellsFrom n l d=cellsFrom n l []++d
 |[],n,d=>rfl
 |_::l,n,d=>by
  unfold cellsFrom;split
  .rw[jH l _ _,jH l _ [_],aA];rfl
  .exact jH l n d
theorem FC: ∀ l  n {x}{c},(x,c)∈cellsFrom n l []->(x,NameKind.cell)∈l/\n<=c
 |[],n,x,c,h=>nomatch h
 |(y,k)::l,n,x,c,h=>by
  unfold cellsFrom at h;split at h
  .rename_i q;rw[jH]at h;rcases á.mp h with h|h
   .obtain⟨d,m⟩:=FC l _ h;exact⟨mO _ d,by lia⟩
   .have e:=mS.mp h;cases e;have a:=by simpa using q
    subst a;exact⟨mF0,à _⟩
  .obtain⟨d,m⟩:=FC l n h;exact⟨mO _ d,m⟩
def EL(h:(x,c)∈cellsFrom (C+1) l [])(a:n<=C):n<c:=Nat.lt_of_le_of_lt a (FC l _ h).2
theorem CS: ∀ l  n {x},(x,NameKind.cell)∈l-> ∃c,(x,c)∈cellsFrom n l []
 |[],n,x,h=>nomatch h
 |(y,k)::l,n,x,h=>by
  unfold cellsFrom;rcases mC.mp h with e|h
  .cases e;rw[jH];exact⟨n,ð _ mF0⟩
  .split
   .obtain⟨c,d⟩:=CS l _ h;rw[jH];exact⟨c,õ _ d⟩
   .exact CS l n h
theorem own_apart: ∀ l  n ,(cellsFrom n l []).Pairwise λx y=>x.2≠y.2
 |[],n=>List.Pairwise.nil
 |_::l,n=>by
  unfold cellsFrom;split
  .rw[jH];refine List.pairwise_append.mpr ⟨own_apart l _,List.pairwise_singleton _ _,λa m b d e=>?_⟩;rw[mS.mp d]at e;have:=(FC l _ m).2;exact ċ this e
  .exact own_apart l n
theorem uM{β:Type}(x): ∀(l m:List (Str×β)),(l++m).lookup x=(l.lookup x).or (m.lookup x)
 |[],m=>rfl
 |(y,b)::l,m=>by
  rw[List.cons_append,ğ,ğ]
  cases x==y with
  |true=>rfl
  |false=>exact uM x l m
theorem QF{β:Type}: ∀{l:List (Str×β)},(∀c,(x,c)∉l)->l.lookup x=none
 |[],_=>rfl
 |(y,b)::l,h=>by
  rw[ğ]
  cases e:x==y with
  |true=>rw[beq_iff_eq.mp e]at h;exact absurd mF0 (h b)
  |false=>exact QF λc d=>h c (mO _ d)
def qG(e:(Lb env sc C).lookup x=some c):(x,c)∈cellsFrom (C+1) sc.names []\/(DR env sc.names []).lookup x=some c:=by
 unfold Lb at e;rw[jH,uM]at e
 cases z:(cellsFrom _ sc.names []).lookup x with
 |some c'=>rw[z]at e;cases e;exact .inl (PySem.mem_of_lookup z)
 |none=>rw[z]at e;exact .inr e
def N5(h:(x,NameKind.cell)∈sc.names)(e:(Lb env sc C).lookup x=some c):(x,c)∈cellsFrom (C+1) sc.names []:=by unfold Lb at e;rw[jH,uM]at e;obtain⟨a,h'⟩:=dW (CS sc.names _ h);rw[h']at e;cases e;exact PySem.mem_of_lookup h'
theorem Uo(h:(x,NameKind.cell)∉sc.names):(Lb env sc C).lookup x=(DR env sc.names []).lookup x:=by unfold Lb;rw[jH,uM,QF λc a=>h (FC _ _ a).1];rfl
noncomputable def GR(σ:St)(a:Db):St:=a.map λi=>(σ[i]?).join
def rG(σ)(idx):(GR σ idx).length=idx.length:=by unfold GR;rw[lM0]
def zY(X:Cx)(sc:Scope)(T:C0)(idx:Db)(C:Addr)(s₂:ŀ)(H1:Hp)(fp:B9):Cx where
 prog:=X.prog
 w:=X.w
 K:=X.K
 mg:=X.mg
 base:=X.base
 A:=X.A
 N:=T++idx.map λi=>(X.N[i]?).getD Str.empty
 s₀:=s₂
 H₀:=H1
 env:=compEnvC sc (Lb X.env sc C) C X.env
 outer:=X.stack
 stack:=X.stack
 ex:=fp
 fn:=λx=>sc.names.lookup x==some .cell
 calm:=X.calm
 pn:=[]
 xe:=λ_ _=>False
def Md(r:TI)(g:TG)(q:Addr->ŀ->Hp->List Addr->TT)(p:Addr->ŀ->Hp->List Addr->TE)(nt:Nat)(j:Db):TE:=λσ H Q=>r σ H λJ n=> ∃W:Nat->Nat->List V->Hp->Prop,(∃m,W 0 m [] n)/\ ∀i m e d,W i m e d->e.length<=sizeLine/\
 ((J.stop i d/\ ∀D,d D=none->Q (.ref D) (yQ d D (.lst e)))\/
   (J.go i d/\e.length<sizeLine/\ ∀x o,J.yld i d x o-> ∀τ:St,τ.length=nt->g x (τ++GR σ j) o λc s=>(∃h,c=h++GR σ j/\h.length=nt)/\
    ∀C a fp,q C a n fp c s λb H5=>if b=true then p C a n fp c H5 λy H6=> ∃k,k<m/\W (i+1) k (e++[y]) H6 else∃k,k<m/\W (i+1) k e H5))
section
def SY(I:Nat->ŀ->Prop)
  (turn: ∀n s,I n s->wpAny (model prog w) A (pyNext it) (λr d=>match r with
   |none=>R (.ok .next) d
   |some v=>wpAny (model prog w) A (letOwnedTupleGo target it v) (λ_ q=>wpAny (model prog w) A (assign target env v) (λ_ D=>
     wpAny ↑7 A (forIn ifs true λc r=>if r=true then do let ok <-isTrue c env (eval c env);pure (ForInStep.yield ok)else pure (ForInStep.yield r)) (λok u=>
      if ok=true then wpAny ↑7 A (eval elt env) (λx B=>
       wpAny ↑7 A (call (.builtin "list.append") [acc,x]) (λ_ G=> ∃m,m<n/\I m G) (λ_ _=>False) B) (λ_ _=>False) u
      else∃m,m<n/\I m u) (λ_ _=>False) D) (λ_ _=>False) q) (λ_ _=>False) d) (λ_ _=>False) s)
  (n) (h:I n s):codeAny ↑7 A (.compLoop (.ListComp elt [⟨target,iter,ifs,0⟩] scope pos) 0 it acc env) R s:=by
 refine codeAny_loop rfl I (λn s C=>?_) n h;refine wpAny_noted ?_;have i: ∀{y:VP}(v:Ł)(p:ŀ),False->y v p:=λ_ _ z=>z.elim;refine wB (đ (wB (ò (turn n s C) (λr d b=>?_) (i))))
 cases r with
 |none=>exact wP b
 |some v=>
  refine wB (ò b (λ_ q e=>wB (ò e (λ_ D j=>wB (ò j (λok u a=>?_) i)) i)) i)
  cases ok with
  |false=>exact wP ⟨rfl,a⟩
  |true=>
   exact wB (wB (ò a (λx B o=>wB (ò o (λ_ G k=>wP (wP ⟨rfl,k⟩)) i)) i))
end
def Id(X:Cx)(a:O0)(t:TT):Prop:=
 ∀(pins:L1)(s:ŀ)(σ:St)(H:Hp)(Q:Bool->Hp->Prop),Inv X pins σ H s->t σ H Q->
  wpAny ↑5 X.A (forIn a true λc r=>if r=true then do let ok <-isTrue c X.env (eval c X.env);pure (ForInStep.yield ok)else pure (ForInStep.yield r)) (TP X pins σ Q) X.xe s
def zBV:TT:=λ_ H Q=>Q true H
structure CompF(osc:Scope)(N:C0)(sc:Scope)(idx:Db):Prop where
 kind:sc.kind=.function
 uni: ∀y∈sc.names,sc.names.lookup y.1=some y.2
 frees: ∀y∈sc.names,y.2=.free->osc.names.lookup y.1=some .cell\/osc.names.lookup y.1=some .free
 cap: ∀i∈idx, ∃y,N[i]? =some y/\(osc.names.lookup y=some .cell\/osc.names.lookup y=some .free)/\sc.names.lookup y=some .free
def CompF.locs(F:CompF osc N sc idx): ∀y∈sc.names,y.2=.local->sc.names.lookup y.1=some .local:=λy a e=>by rw[F.uni y a,e]
def Uq(h:AV osc N sc idx=true):CompF osc N sc idx:=by
 unfold AV at h;simp only[aE,ă,decide_eq_true_eq,Bool.or_eq_true]at h;obtain⟨⟨⟨c,j⟩,d⟩,b⟩:=h;refine⟨c,λy a=>j y a,λy a e=>?_,λi hi=>?_⟩
 .rcases d y a with(z|z)|z
  .exact absurd e z
  .exact .inl z
  .exact .inr z
 .have q:=b i hi
  cases e:N[i]? with
  |none=>rw[e]at q;cases q
  |some y=>
   rw[e]at q;simp only[aE,decide_eq_true_eq,Bool.or_eq_true]at q;exact⟨y,rfl,q.1,q.2⟩
def Mg(h:(Um sc osc).lookup x=some .cell\/(Um sc osc).lookup x=some .free):(x,NameKind.free)∈sc.names\/(x,NameKind.cell)∈sc.names:=by
 have a: ∀b,(b=.cell\/b=.free)->(x,b)∈Um sc osc->(x,NameKind.free)∈sc.names\/(x,NameKind.cell)∈sc.names:=by
  intro b c j;refine(mM0.mp j).a λg d e=>?_;obtain ⟨n,k⟩:=g;dsimp only at e;split at e
  .rename_i i;cases e;rw[aE,aE]at i;have:=by simpa using i.1.1
   subst this;exact .inl d
  .cases e;rcases c with rfl|rfl
   .exact .inr d
   .exact .inl d
 rcases h with h|h
 .exact a _ (.inl rfl) (PySem.mem_of_lookup h)
 .exact a _ (.inr rfl) (PySem.mem_of_lookup h)
theorem QG{a:Scope}{x:Str}: ∀{l:List (Str×NameKind)},l.lookup x=some .free->(l.map λ(n,k)=>if(k==NameKind.free&&a.kind==.function&&a.names.lookup n==some .cell)then(n,NameKind.cell)else(n,k)).lookup x=some .cell\/(l.map λ(n,k)=>if(k==NameKind.free&&a.kind==.function&&a.names.lookup n==some .cell)then(n,NameKind.cell)else(n,k)).lookup x=some .free
 |[],h=>by simp at h
 |(n,k)::l,h=>by
  have d:=@QG a x l;rw[ğ]at h;rw[æ];by_cases c:(k==NameKind.free&&a.kind==.function&&a.names.lookup n==some .cell)=true
  .dsimp only;rw[iP c,ğ]
   cases b:x==n with
   |true=>exact .inl rfl
   |false=>rw[b]at h;exact d h
  .dsimp only;rw[iN0 c,ğ]
   cases b:x==n with
   |true=>rw[b]at h;exact .inr h
   |false=>rw[b]at h;exact d h
section
variable{C:Addr}{fp:B9}
def WN(I:Inv X pins σ H1 s₂)(F:CompF ↑23 X.N sc idx): ∀y∈sc.names,y.2=.free-> ∃c,X.env.cells.lookup y.1=some c:=
 λy a e=>I.ok.has y.1 (F.frees y a e)
def cB(I:Inv X pins σ H1 s₂)(F:CompF ↑23 X.N sc idx)(e:(DR X.env sc.names []).lookup x=some c):X.env.cells.lookup x=some c:=
 IF sc.names [] (WN I F) (λ_ z=>nomatch z) _ (PySem.mem_of_lookup e)
def Ur(I:Inv X pins σ H1 s₂)(F:CompF ↑23 X.N sc idx)(a:(x,NameKind.free)∈sc.names)(e:X.env.cells.lookup x=some c):(DR X.env sc.names []).lookup x=some c:=by obtain⟨b,h'⟩:=dW (AU sc.names [] x a);rw[h'];rw[cB I F h']at e;exact e
def Ie(I:Inv X pins σ H1 s₂)(F:CompF ↑23 X.N sc idx)(hC:s₂.heap.objs.size<=C)(hfp: ∀b∈fp,EI X pins H1 b)(hlt: ∀b∈fp,b<s₂.heap.objs.size):(zY X sc T idx C s₂ H1 fp).Ok where
 mod:=I.ok.mod
 kind:=F.kind
 glob:=I.ok.glob
 blt:=I.ok.blt
 above:=hC
 inj:=λx y c h1 h2=>by
  have low:=λz h=>let ⟨v,q⟩:=I.cell z c (cB I F h);q.lt;rcases qG h1 with z1|z1<;>rcases qG h2 with z2|z2
  .exact PySem.name_of_addr (own_apart sc.names _) z1 z2
  .exact absurd (low y z2) (Nat.not_lt.mpr (le_of_lt (EL z1 hC)))
  .exact absurd (low x z1) (Nat.not_lt.mpr (le_of_lt (EL z2 hC)))
  .exact I.ok.inj x y c (cB I F z1) (cB I F z2)
 has:=λx hx=>by
  show∃c,(Lb X.env sc C).lookup x=some c;unfold Lb;rw[jH];rcases Mg hx with z|z
  .obtain⟨c,hc⟩:=AU sc.names [] x z;exact dW ⟨c,ð _ hc⟩
  .obtain⟨c,hc⟩:=CS sc.names _ z;exact dW ⟨c,õ _ hc⟩
 cab:=λx c h e=>by exact le_of_lt (EL (N5 (PySem.mem_of_lookup (beq_iff_eq.mp h)) e) hC)
 hd:=I.ok.hd
 frames:=I.ok.frames
 stk:=.inl rfl
 exf:=λb hb=>⟨ê (é (hlt b hb) hC),λx c e=>by
  rcases qG e with z|z
  .exact ċ (lt_trans (hlt b hb) (EL z hC))
  .exact(hfp b hb).2.2.2.2.1 x c (cB I F z)⟩
 bs:=I.bs
 bsz:=í I.ok.bsz I.sz
 noex:=λb o e hb=>by
  rcases (hfp b hb).2.2.2.1 with z|z
  .exact I.ok.noex b o e z
  .exact absurd (é (ã e) (í I.ok.bsz z)) (ī _)
 exfs:=λb hb z=>by
  rcases mC.mp (I.stkSub b z)with e|e
  .exact(hfp b hb).2.1 e
  .exact(hfp b hb).2.2.1 e
 funs:=I.stack
 frf:=I.stkFree
theorem Au(I:Inv X pins σ H1 s₂)(F:CompF ↑23 X.N sc idx)(w:s₂.heap.objs.size<=C)(B: ∀b∈fp,EI X pins H1 b)(A: ∀b∈fp,b<s₂.heap.objs.size)
  (kp: ∀b o,s₂.heap.get? b=some o->s₄.heap.get? b=some o) (ho:s₄.os=s₂.os) (hg:s₄.gens=s₂.gens) (hn:s₄.heap.Ns C m) (hcl: ∀x c,(x,c)∈cellsFrom (C+1) sc.names []->s₄.heap.IsCell c none):
  Inv (zY X sc T idx C s₂ H1 fp) [] (T.map (λ_=>none)++GR σ idx) H1 s₄:=by
 have h: ∀c v,s₂.heap.IsCell c v->s₄.heap.IsCell c v:=λc v ⟨o,K,S⟩=>⟨o,kp c o K,S⟩
 refine⟨Ie I F w B A,ho,by rw[hg];exact I.bare,Un.kept kp,(Z8 m hn (λi x v P d Y=>?_)),λx c e=>?_,I.hok.fresh w,λx c e=>?_,λp Q=>absurd (show p∈([]:List _)from Q) (by simp),I.hok.kept kp,?_⟩
 .have k:(T++idx.map λi=>(X.N[i]?).getD Str.empty)[i]? =some x:=P;by_cases hi:i<T.length
  .rw[â (by simpa using hi),ë]at d
   cases z:T[i]? with
   |none=>rw[z]at d;cases d
   |some y=>rw[z]at d;cases d
  .rw[è (by simpa using hi)]at d;rw[è #[0]]at k;rw[lM0]at d;unfold GR at d;rw[ë]at k d
   cases z:idx[i - T.length]? with
   |none=>rw[z]at d;cases d
   |some j=>
    rw[z]at k d;refine(F.cap j (î z)).c λy E H D=>?_;have O:=by have q:(X.N[j]?).getD Str.empty=x:=å k;rw[E]at q;exact q
    subst O
    have U:σ[j]? =some (some v):=by
     have q:(σ[j]?).join=some v:=å d
     cases G:σ[j]? with
     |none=>rw[G]at q;cases q
     |some a=>rw[G]at q;have L:a=some v:=q;rw[L]
    refine I.loc.a λW M s=>?_;refine(s j y v E U (H.elim (λz=>.inr (.inl z)) λz=>.inr (.inr z))).a λu r l=>?_;refine Z8 u r ?_;rcases l with⟨kl,_⟩|⟨_,c,hc,q⟩
    .have n:X.env.scope.names.lookup y=some .local:=kl;rcases H with z|z<;>rw[z]at n<;>cases n
    .have J:(y,NameKind.cell)∉sc.names:=λz=>by have:=F.uni _ z;rw[D]at this;cases this
     refine .inr ⟨QG D,c,?_,h c _ q⟩;show(Lb X.env sc C).lookup y=some c;rw[Uo J];exact Ur I F (PySem.mem_of_lookup D) hc
 .rcases qG e with z|z
  .exact⟨none,hcl x c z⟩
  .obtain⟨v,q⟩:=I.cell x c (cB I F z);exact⟨v,h c v q⟩
 .rcases qG e with z|z
  .exact I.hok.fresh (le_of_lt (EL z w))
  .exact I.freeC x c (cB I F z)
 .show(T.map (λ_=>_)++GR σ idx).length=(T++idx.map λi=>(X.N[i]?).getD Str.empty).length;rw[lA,lA,lM0,lM0,rG]
def Av{D:Addr}(I:Inv X pins σ H1 s₂)(w:s₂.heap.objs.size<=C)(i: ∀b∈fp,EI X pins H1 b)
  (J:Inv (zY X sc T idx C s₂ H1 fp) [] σ1 H' s') (hs:Heap.SameBut C s'.heap h') (hD:s₂.heap.objs.size<=D) (hDC:D≠C) (eD:s'.heap.get? D=some {cls:=.type "list",data:=.seq its.toArray n}) (nD:H' D=none) (r:Vals ys its) (hz:ys.length<=sizeLine):
  Inv X pins σ (yQ H' D (.lst ys)) {s' with heap:=h'}:=by
 have h: ∀b o,s₂.heap.get? b=some o->b≠C/\b≠D:=λb o e=>⟨ê (é (ã e) w),ê (é (ã e) hD)⟩
 have d: ∀b u,H1 b=some u->b≠D:=λb u e=>ê (é (I.hok.lt e) hD);have p:=J.free;have B:=J.base;have m: ∀b o,b≠C->s'.heap.get? b=some o->h'.get? b=some o:=λb o a e=>(hs.2 b a).trans e;refine I.call' J.os ⟨λb o e q a j=>?_,λb o e q a j=>?_,λb o e q j=>?_,λb o e j=>?_,λb xs e=>?_,λb o u e=>?_,λb ps e=>?_⟩ ?_ J.bare λb a=>⟨(i b a).2.2.2.1,(i b a).2.1,(i b a).2.2.2.2.1,(i b a).2.2.2.2.2⟩
 .exact m b o (h b o e).1 (B.keep b o e q a j)
 .obtain⟨sl,z⟩:=B.slot b o e q a j;exact⟨sl,m b _ (h b o e).1 z⟩
 .rw[zH (h b o e).2];exact B.free b o e q j
 .obtain⟨s,z⟩:=B.there b o e j;exact⟨s,m b s (h b o e).1 z⟩
 .rw[zH (d b _ e)];exact B.tups b xs e
 .rw[zH (d b _ e)];exact B.frzs b o u e
 .obtain⟨k,z⟩:=B.tbls b ps e;exact⟨k,by rw[zH (d b _ e)];exact z⟩
 .intro b u e;by_cases a:b=D
  .subst a;rw[zI]at e;cases e;exact⟨hz,its,n,r,m b _ hDC eD⟩
  .rw[zH a]at e;refine(J.hok b u e).stay (λc v y q=>m c v ?_ q) (λc q=>by rw[zH (zT q nD)];exact q) λc xs q=>by rw[zH (zT q nD)];exact q
   rcases y with z|z
   .rw[z];exact zT e p
   .exact zT z p
end
section
def OO
  (d:Q (newEnv scope ↑3 globals (cellsFrom (↑3+1) scope.names closure) qual none .none (some outer) builtinsNs) {s with heap:=pushCells (s.heap.push {cls:=.type "dict",data:=.dict #[]}) scope.names}):
  wpAny M A (newFunctionEnv scope globals closure [] qual none .none (some outer)) Q E s:=by
 simp only[newFunctionEnv,Option.isSome_some,if_true];refine wB (wpAny_alloc ?_);refine wB (wpAny_layCells _ (λc kind a=>by cases b:kind==NameKind.cell<;>simp[b]) _ _ _ _ ?_);rw[show({s with heap:=s.heap.push {cls:=.type "dict",data:=.dict #[]}}:ŀ).heap.objs.size=↑3+1 from Ē ..];exact wB (wP (wP d))
theorem WO(T)(idx)
  (hi:Tx C X tg iter wi) (hCx: ∀c B O fp pins σ,Inv X pins σ O B->C (zY X sc T idx c B O fp)) (hB:AV ↑23 X.N sc idx=true)
  (hg: ∀C B H1 fp,PG (zY X sc T idx C B H1 fp) tg g)
  (hc: ∀C B H1 fp,Id (zY X sc T idx C B H1 fp) ifs (tc C B H1 fp))
  (he: ∀C B H1 fp,PE (zY X sc T idx C B H1 fp) elt (te C B H1 fp))
  (hs: ∀x,foldedSetIterable iter X.env x=pure x:=by intro _;rfl)
         (I:↑1) (h:Md wi g tc te T.length idx σ H Q)
  (fin: ∀ D C  U  H'  r ,(∀h',Heap.SameBut C U.heap h'->Inv X pins σ H' {U with heap:=h'})->EI X pins H' C->(∃m,U.heap.Ns C m)->Q (.ref D) H'->
   compPost ↑5 X.A X.xe use Q' (.ref D) C (.ok r) U):
  wpAny ↑5 X.A (comprehension ↑27 sc X.env (firstIterPos [⟨tg,iter,ifs,0⟩] pos) (newList []) false (eval iter X.env) use) Q' X.xe s:=by
 have cf:=Uq hB;refine wpAny_comprehension_free rfl hs (ON (WN I cf)) cf.kind cf.locs ?_;refine wU (hi pins s σ H _ I h) λv s1 h1=>wU h1 λa7 a h2=>?_;obtain⟨it,fp,tn,J,O,e,S,L,ao,f2,W,⟨m0,w0⟩,ar⟩:=h2;subst e;have ab: ∀b∈fp,b<a.heap.objs.size:=λb E=>let ⟨o,e,_⟩:=L.obj _ _ ao b E;ã e;refine ę (OO ?_);dsimp only;generalize ai:a.heap.push {cls:=.type "list",dict:=none,data:=.seq ([]:A0).toArray}=HH;generalize af:pushCells _ sc.names=h₁;have hC:HH.objs.size=↑40+1:=by rw[<-ai,Ē]
 have Y:↑40≠HH.objs.size:=by rw[hC];exact ê (Nat.lt_succ_self _)
 have G:↑40<=HH.objs.size:=by rw[hC];exact le_succ _
 have aq: ∀b o,HH.get? b=some o->h₁.get? b=some o:=λb o e=>af▸pushCells_keeps _ _ b o (hP0 _ e);have aj: ∀b o,a.heap.get? b=some o->h₁.get? b=some o:=λb o e=>aq b o (ai▸hP0 _ e);have a6: ∀x c,(x,c)∈cellsFrom (HH.objs.size+1) sc.names []->h₁.IsCell c none:=λx c hm=>by have ok:=cellsFrom_ok sc.names (HH.push {cls:=.type "dict",data:=.dict #[]}) 0 [] ⟨λ_ _ hm=>(nomatch hm),List.Pairwise.nil⟩ (zero_le _);rw[Ē,af]at ok;exact(ok.empty x c hm).1
 have cD: ∀x c,(Lb X.env sc HH.objs.size).lookup x=some c->c≠a.heap.objs.size:=λx c e=>by
  rcases qG e with z|z
  .exact ċ (EL z G)
  .obtain⟨v,q⟩:=S.cell x c (cB S cf z);exact ê q.lt
 have Z: ∀U:ŀ,U={a with heap:=h₁}->
   codeAny ↑5 X.A (.compLoop ↑27 0 (.ref it) (.ref ↑40) (compEnvC sc (Lb X.env sc HH.objs.size) HH.objs.size X.env))
    (compPost ↑5 X.A X.xe use Q' (.ref ↑40) HH.objs.size) U:=by
  rintro U rfl
  have J0:Inv _ [] (T.map (λ_=>none)++GR σ idx) O {a with heap:=h₁}:=
   Au S cf G f2 ab aj rfl rfl (af▸(Heap.Ns.new HH (.type "dict")).keeps (pushCells_keeps _ _)) a6
  refine SY (λk s'=> ∃(i:Nat)(ys:List V)(j:A0)(n:Nat)(H':Hp)(τ:St),Inv _ [] (τ++GR σ idx) H' s'/\τ.length=T.length/\tn i s'.heap/\(∀b∈fp,H' b=none)/\
   s'.heap.get? ↑40=some {cls:=.type "list",data:=.seq j.toArray n}/\H' ↑40=none/\Vals ys j/\W i k ys H') ?_ m0
   (Ya 0 ([]) ([]) 0 O _ ⟨J0,(by rw[lM0]),L.keep _ _ _ ao λb _ o e=>aj b o e,(λb E=>(f2 b E).1),aq _ _ (ai▸ä _ rfl),S.hok.fresh (à _),.nil,w0⟩)
  rintro k s3 ⟨i,ys,j,n,H3,τ,I3,az,ay,aw,a5,ah,r3,w3⟩;obtain⟨hz,a0⟩:=ar i k ys H3 w3;have ax:↑40∉(zY X sc T idx HH.objs.size a O fp).fs:=λz=>by obtain⟨_,o,ho,_⟩:=S.stack.mem z;exact absurd (ã ho) (ī _)
  have av: ∀{H':Hp}{s':ŀ},s'.heap.get? ↑40=some {cls:=.type "list",data:=.seq j.toArray n}->H' ↑40=none->
    ∀p∈[(↑40,_)],s'.heap.get? p.1=some p.2/\H' p.1=none/\p.1≠(zY X sc T idx HH.objs.size a O fp).env.locals/\p.1∉(zY X sc T idx HH.objs.size a O fp).fs/\ ∀v,p.2.data≠.cell v:=
   λ{H' s'} e1 e2 p M=>by
    have ep:p=(↑40,{cls:=.type "list",data:=.seq j.toArray n}):=by simpa using M
    subst ep;exact⟨e1,e2,Y,ax,λv z=>by cases z⟩
  have P3:Inv _ [_] (τ++GR σ idx) H3 s3:=I3.pins_of (av a5 ah)
  have P: ∀{H':Hp},(∀b∈fp,H' b=none)-> ∀b∈fp,EI _ [_] H' b:=λ{H'} hn b E=>by
   have ak:=ab b E;refine⟨hn b E,ê (é ak G),I3.ok.exfs b E,.inl E,λx c e=>?_,λp M=>?_⟩
   .rcases qG e with z|z
    .exact ċ (lt_trans ak (EL z G))
    .exact(f2 b E).2.2.2.2.1 x c (cB S cf z)
   have ep:p=(↑40,({cls:=.type "list",data:=.seq j.toArray n}:Obj)):=by simpa [zY]using M
   subst ep;exact ċ ak
  rcases a0 with⟨stop,q⟩|⟨go,hl2,step⟩
  .refine wU (L.done (zY X sc T idx HH.objs.size a O fp) rfl rfl rfl (hCx _ _ _ _ _ _ S) i _ s3 _ H3 (λ_ _=>False) P3 (P aw) ay stop) λr U ⟨hr,I4⟩=>?_;subst hr;refine(id I4.loc).a λm hn _=>?_;exact fin _ _ U _ _ (λh' a3=>Av S G f2 (I4.pins_of (λp M=>nomatch M)) a3 (à _) Y ((I4.pin (a.heap.objs.size,{cls:=.type "list",data:=.seq j.toArray n}) (by simp)).1) ah r3 hz) (S.fpOk G (by rw[zH (Ne.symm Y)];exact I4.free)) ⟨m,hn⟩ (q _ ah)
  .refine wU (L.item (zY X sc T idx HH.objs.size a O fp) rfl rfl rfl (hCx _ _ _ _ _ _ S) i _ s3 _ H3 (λ_ _=>False) P3 (P aw) ay go) λr U ⟨u,hr,h4⟩=>?_;subst hr;refine wU h4 λ_ s5 ⟨x,H5,I5,r5,y5,K,a4⟩=>?_;refine wU (hg HH.objs.size a O fp _ s5 _ H5 x u _ (I5.pinned (P a4) (L.obj _ _ K)) r5 (step x H5 y5 τ az)) λ_ s6 ⟨a8,H6,I6,⟨aa,e6,l6⟩,q6⟩=>?_;subst e6;refine wU (hc HH.objs.size a O fp _ s6 _ H6 _ I6 (q6 HH.objs.size a fp)) λok s7 ⟨H7,I7,q7⟩=>?_
   have mD:(↑40,({cls:=.type "list",data:=.seq j.toArray n}:Obj))∈(zY X sc T idx HH.objs.size a O fp).pn++([(↑40,{cls:=.type "list",data:=.seq j.toArray n})]++KS fp s5.heap):=
    ð _ (õ _ (by simp))
   have mF: ∀b∈fp, ∀o,s5.heap.get? b=some o->(b,o)∈(zY X sc T idx HH.objs.size a O fp).pn++([(↑40,{cls:=.type "list",data:=.seq j.toArray n})]++KS fp s5.heap):=λb E o e=>
    ð _ (ð _ (EK E e))
   cases ok with
   |false=>
    rw[iN0 xF0]at q7 ⊢;obtain⟨m',ag,w7⟩:=q7;refine⟨m',ag,i+1,ys,j,n,H7,aa,I7.pins_of (λp M=>nomatch M),l6,L.keep _ _ _ K λb E o e=>(I7.pin _ (mF b E o e)).1,λb E=>?_,(I7.pin _ mD).1,(I7.pin _ mD).2.1,r3,w7⟩;obtain⟨o,e,d⟩:=L.obj _ _ K b E;exact(I7.pin _ (mF b E o e)).2.1
   |true=>
    rw[iP rfl]at q7 ⊢;refine wU (he HH.objs.size a O fp _ s7 _ H7 _ I7 q7) λy s8 ⟨yv,H8,I8,r8,m',ag,w8⟩=>?_;have ae:=(I8.pin _ mD).1;have au:=(I8.pin _ mD).2.1;have hl:=r3.length;have q:=PySem.IsL.update ae (λz=>z.push y);rw[show j.toArray.push y=(j++[y]).toArray by simp]at q;refine call_meets PySem.F.slot_list_append ⟨_,ae,rfl⟩ PySem.F.entry_list_append (PySem.F.args_list_append_2 _ _) (PySem.list_append a.heap.objs.size j.toArray n y (by rw[sA];lia)) ⟨ae,?_⟩;have I9:Inv _ [] (aa++GR σ idx) H8 s8:=I8.pins_of (λp M=>nomatch M);have up: ∀b o,b≠a.heap.objs.size->s8.heap.get? b=some o->(s8.heap.update a.heap.objs.size (Obj.mapSeq λz=>z.push y)).get? b=some o:=λb o E e=>(ó s8.heap _ (Ne.symm E)).trans e;refine⟨m',ag,i+1,_,_,_,H8,aa,I9.turned up au Y (.inr (à _)) cD (λp M=>nomatch M),l6,?_,λb E=>?_,q,au,r3.append (.cons r8 .nil),w8⟩
    .exact L.keep _ _ _ K λb E o e=>up b o (ê (ab b E)) (I8.pin _ (mF b E o e)).1
    .obtain⟨o,e,d⟩:=L.obj _ _ K b E;exact(I8.pin _ (mF b E o e)).2.1
 exact codeAny_compStart_list (Z _ rfl) (L.self X.A 0 _ _ _ (L.keep _ _ _ ao λb _ o e=>aj b o e) (Z _ rfl))
def Us(T)(idx)
  (hi:Tx C X tg iter wi) (hCx: ∀c d v fp pins σ,Inv X pins σ v d->C (zY X sc T idx c d v fp)) (hB:AV ↑23 X.N sc idx=true)
  (hg: ∀C d u fp,PG (zY X sc T idx C d u fp) tg g)
  (hc: ∀C d u fp,Id (zY X sc T idx C d u fp) ifs (tc C d u fp))
  (he: ∀C d u fp,PE (zY X sc T idx C d u fp) elt (te C d u fp))
  (hs: ∀x,foldedSetIterable iter X.env x=pure x:=by intro _;rfl):
  PE X ↑27 (Md wi g tc te T.length idx):=by
 intro pins s σ H Q I h;exact WO T idx hi hCx hB hg hc he hs I h λD C e H' r J _ ⟨m,b⟩ q=>(Z8 m b (λh' a=>(Z3 (.ref D) H' (J h' a) rfl q)))
end
noncomputable def kX(x:Db):Str:=⟨x.toArray⟩
def jV(x):(kX x).length=x.length:=by simp[kX,Str.length]
def JZ(x):(kX x).cps.toList=x:=by simp[kX]
def KB(h:kX x=kX y):x=y:=by have:=congrArg (λs=>s.cps.toList) h;simpa [kX]using this
def FD(x y):kX x++kX y=kX (x++y):=by show Str.append _ _=_;simp[Str.append,kX]
theorem Ut(c):(⟨#[c]⟩)=kX [c]:=rfl
def iE{α:Type}(xs:List α)(lo hi:N0):List α:=(xs.drop (HT.sIx ↑8 0 lo)).take (HT.sIx ↑8 ↑8 hi - HT.sIx ↑8 0 lo)
theorem strIdx(lo hi)(n):Builtin.Str.strSliceIndices lo hi 1 n=(List.range (HT.sIx n n hi - HT.sIx n 0 lo)).map (HT.sIx n 0 lo+·):=by
 have b:(match lo with |none=>(if(1:Int)>0 then(0:Int)else(n:Int) - 1)|some i=>if(1:Int)>0 then max 0 (min (if i<0 then i+(n:Int)else i) (n:Int))else max (-1) (min (if i<0 then i+(n:Int)else i) ((n:Int) - 1)))=((HT.sIx n 0 lo:Nat):Int):=by
  cases lo with
  |none=>simp[HT.sIx]
  |some i=>
   simp only[HT.sIx,show(1:Int)>0 by decide,if_true];by_cases h:i<0
   .simp only[h,if_true];lia
   .simp only[h,iF];lia
 have a:(match hi with |none=>(if(1:Int)>0 then(n:Int)else -1)|some i=>if(1:Int)>0 then max 0 (min (if i<0 then i+(n:Int)else i) (n:Int))else max (-1) (min (if i<0 then i+(n:Int)else i) ((n:Int) - 1)))=((HT.sIx n n hi:Nat):Int):=by
  cases hi with
  |none=>simp[HT.sIx]
  |some i=>
   simp only[HT.sIx,show(1:Int)>0 by decide,if_true];by_cases h:i<0
   .simp only[h,if_true];lia
   .simp only[h,iF];lia
 rw[<-sliceRange_one];unfold Builtin.Str.strSliceIndices;rw[<-b, <-a];cases lo<;>cases hi<;>rfl
theorem Ig(x)(lo hi):Txt.slice (kX x) lo hi=kX (iE x lo hi):=by
 unfold Txt.slice;rw[strIdx,jV];have c:=by have:=pick_run (kX x).cps (HT.sIx x.length 0 lo) (HT.sIx x.length x.length hi - HT.sIx x.length 0 lo);exact this
 rw[c];split
 .rename_i a;rw[aE]at a;have b:=by simpa using a.2
  have d:HT.sIx x.length x.length hi<=x.length:=HT.sIx_le _ _ (à _) _;have h:HT.sIx x.length 0 lo<=x.length:=HT.sIx_le _ _ (zero_le _) _;have e:HT.sIx x.length 0 lo=0:=by lia
  unfold iE;rw[b,e];simp
 .rfl
section
variable{X:Cx}
def rSlS:V->Option Int->Option Int->Hp->VK->Prop:=λx lo hi H Q=> ∃a,x=.str (kX a)/\a.length<=sizeLine/\Q (.str (kX (iE a lo hi))) H
def N6:SlR X rSlS:=by
 intro pins s σ H x v z y lo hi sl Q I p hs r m h;refine h.c λw g n q=>?_;subst g;obtain⟨t,rfl⟩:=p;have c:(Txt.slice (kX w) lo hi).length<=sizeLine:=í (Txt.slice_le _ _ _) (by rw[jV];exact n);rw[<-Ig]at q;refine Z3 ("str") _ slot_str_getitem.lookup (typeIs_str _ _ _) ?_;obtain⟨o,b,d,a⟩:=hs
 cases r with
 |none=>
  cases m with
  |none=>exact Ĵ (l:=none) (u:=none) (st:=none) (Z1 o b d a) rfl (post_val_or_str ⟨c,λe k=>(Z3 (.str _) H (I.tok _) ⟨_,rfl⟩ q)⟩)
  |int j uj=>exact Ĵ (l:=none) (u:=some (j,uj)) (st:=none) ⟨o,b,d,a⟩ rfl (post_val_or_str ⟨c,λe k=>(Z3 (.str _) H (I.tok _) ⟨_,rfl⟩ q)⟩)
 |int i ui=>
  cases m with
  |none=>exact Ĵ (l:=some (i,ui)) (u:=none) (st:=none) (Z1 o b d a) rfl (post_val_or_str ⟨c,λe k=>(Z3 (.str _) H (I.tok _) ⟨_,rfl⟩ q)⟩)
  |int j uj=>exact Ĵ (l:=some (i,ui)) (u:=some (j,uj)) (st:=none) (Z1 o b d a) rfl (post_val_or_str ⟨c,λe k=>(Z3 (.str _) H (I.tok _) ⟨_,rfl⟩ q)⟩)
noncomputable def SZ(a:Db)(k:Int):List Nat:=(List.replicate k.toNat a).flatten
theorem GS(cs): ∀ k (d:Db),List.foldl (λq m=>q++m) d.toArray (List.replicate k cs.toArray)=(d++(List.replicate k cs).flatten).toArray
 |0,d=>by simp
 |k+1,d=>by rw[Ŀ,Ŀ,flatten_cons, <-aA, <-GS cs k _];simp
theorem Aw:OpR X (binaryOp .Mult) (λx y H Q=> ∃d k,x=.str (kX d)/\y=.int k/\0<=k/\k<1000/\d.length<=1000/\Q (.str (kX (SZ d k))) H):=by
 intro pins s σ H x y v u Q I B p h;obtain⟨d,k,rfl,rfl,E,C,o,q⟩:=h;obtain⟨t,rfl⟩:=B;obtain⟨F,rfl⟩:=p;have hs:=ô;have e:d.length * k.toNat<=1000 * 1000:=Nat.mul_le_mul o #[0];refine PySem.P.mul_str (by rw[dF0 #[0],dF0 #[0]];rfl) (λD _=>?_) (λ_ _=>?_) ?_
 .rw[jV]
  have:(1000:Int)<=(2 ^ 63 - 1) / k:=by
   rw[Int.le_ediv_iff_mul_le #[0]]
   lia
  lia
 .rw[jV];exact dF0 #[0]
 .have b: ∀(z:Str),z=kX _->z.length<=sizeLine->(Made.str z).post (EP X pins σ Q) s:=λz n A=>⟨A,by rw[n];exact(Z3 (.str _) H (I.tok _) ⟨_,rfl⟩ q)⟩
  have c:(SZ d k).length=k.toNat * d.length:=by unfold SZ;rw[len_rep]
  by_cases m:k<1
  .rw[iP m];have r:k.toNat=0:=by lia
   refine b _ ?_ ↑4;unfold SZ;rw[r];rfl
  .rw[iN0 m];by_cases a:(k==1 || (kX d).length==0)=true
   .rw[iP a];refine Z3 (.str _) H I ⟨_,rfl⟩ ?_
    have:SZ d k=d:=by
     unfold SZ;rw[Bool.or_eq_true]at a;rcases a with a|a
     .have:=by simpa using a
      subst this;simp
     .rw[jV]at a;have:d=[]:=by cases d with |nil=>rfl|cons _ _=>simp at a
      subst this;simp
    rw[this]at q;exact q
   .rw[iN0 a];refine b _ ?_ ?_
    .unfold SZ kX;have:=GS d k.toNat [];rw[ĸ]at this;exact congrArg Str.mk this
    .have w:(List.foldl (λj i=>j++i) #[] (List.replicate k.toNat (kX d).cps))=(SZ d k).toArray:=by have:=GS d k.toNat [];rw[ĸ]at this;exact this
     show(List.foldl (λj i=>j++i) #[] _).size<=sizeLine;rw[w,sA,c,Nat.mul_comm]
     lia
def TC:CallR X (.builtin "all") (λxs H Q=> ∃(a:Addr)(bs:M0),xs=[.ref a]/\SqL X.K H a (bs.map V.bl)/\X.calm=true/\Q (.bl (bs.all id)) H):=by
 intro pins s σ H xs O Q I r h;refine h.g λa bs g B G q=>?_;subst g;refine(vals1 r).a λu R J=>?_;subst R;cases J;refine(I.list B).c λd A y T=>?_;have c:d.length=bs.length:=by rw[<-A.length,lM0]
 refine PySem.call_all_walk (Ę y.isList ?_);have L:a≠s.heap.objs.size:=by refine y.isList.a λo F _=>?_;exact ê (ã F)
 have I1: ∀(h':Heap)(p:Nat),(∀b o,b∉[↑3]->(s.heap.push {cls:=.type "list_iterator",data:=.fields #[.ref a,.int 0 0]}).get? b=some o->h'.get? b=some o)->Inv X pins σ H {s with heap:=h',toks:=p}:=λh' p k=>
  I.kept λb o e=>k b o (by simpa using ê (ã e)) (hP0 _ e)
 refine Yc _ _ _ _ _ _ (λi=>bs.getD i false) ⟨rfl,PySem.Walks.list (by first |exact I.ok.hd G|exact _) _ a L d.toArray,⟨(Z1 _ (ä _ rfl) rfl rfl),y.isList.at λo e=>hP0 _ e⟩,?_,(λh' p k=>?_)⟩
 .intro i v S P M E z;have j:=by simpa using E
  have hi:i<bs.length:=by rw[<-c];exact(gS.mp j).1
  have D:(bs.map V.bl)[i]? =some (V.bl (bs.getD i false)):=by simp[hi]
  refine(A.get D).a λN n w=>?_;rw[j]at n;cases n;cases w;exact ý z
 .refine(Z3 _ H (I1 h' p k) ?_ q);congr 1;rw[sA,c]
  have: ∀(l:M0),(List.range l.length).all (λi=>l.getD i false)=l.all id:=by
   intro l;rw[Bool.eq_iff_iff,ă,ă];constructor
   .intro h x C;obtain⟨i,hi,rfl⟩:=getElem_of_mem C;have:=h i (ø.mpr hi);simpa [ć,hi]using this
   .intro h i hi;have m:=ø.mp hi;have:=h l[i] (Ĭ m);simpa [ć,m]using this
  exact this bs
def zBW(x:Db):It:=⟨λi _=>i<x.length,λi H v H'=>H'=H/\ ∃c,x[i]? =some c/\v=.str (kX [c]),λi _=>x.length<=i⟩
def iStr(a:TE):TI:=λσ H R=>a σ H λv b=> ∃x,v=.str (kX x)/\R (zBW x) b
def WP{K:P0}(it)(ty)(x)(t)(hty:ty="str_ascii_iterator"\/ty="str_iterator"):
  Turn P w K tg (zBW x) [it] it (λi h=>h.IsStrIter it ty (kX x) t i) where
 mem:=by simp
 obj:=λi h st b hb=>by
  have e:=by simpa using hb
  subst e;refine st.c λo e c d=>?_;exact Z8 o e (λv z=>by rw[d]at z;cases z)
 keep:=λi h h' st k=>let ⟨o,ho,r⟩:=st;(Z8 o (k it (by simp) o ho) r)
 item:=by
  intro X hP hw hK hc i pins s σ H E I hf st hg;subst hP hw hK;refine(hf it (by simp)).f λf0 f1 f2 f3 f4 f5=>?_;have hi:i<x.length:=hg;have hxi:(kX x).cps[i]? =some x[i]:=by simp[kX]
  have fin: ∀(h':Heap),h'.IsStrIter it ty (kX x) t (i+1)->Heap.SameBut it s.heap h'-> ∃u,some (Value.str ⟨#[x[i]]⟩ s.toks)=some u/\
    wpAny ↑5 X.A (letOwnedTupleGo tg _ u) (λ_ s2=> ∃y H',Inv X pins σ H' s2/\RelV y u/\(zBW x).yld i H y H'/\s2.heap.IsStrIter it ty _ t _/\ ∀b∈[it],H' b=none) E {s with heap:=h',toks:=s.toks+1}:=λh' st' sb=>by
   refine(id st').c λo e c d=>?_;refine⟨_,rfl,PP e c d (by rcases hty with rfl|rfl<;>decide) (YD (.str _) H (I.turned (λb o hb e=>(sb.2 b hb).trans e) f0 f1 f3 f4 f5) ⟨_,rfl⟩ ⟨rfl,x[i],by simp[hi],rfl⟩ st' (λb hb=>(hf b hb).1))⟩
  rcases hty with rfl|rfl
  .exact wpAny_pyNext_ascii_item st hxi λh' st' sb=>fin h' st' sb
  .exact wpAny_pyNext_wide_item st hxi λh' st' sb=>fin h' st' sb
 done:=by
  intro X hP hw hK hc i pins s σ H E I hf st hg;refine(hf it (by simp)).f λf0 f1 f2 f3 f4 f5=>?_;have hi:x.length<=i:=hg;have hxi:(kX x).cps[i]? =none:=by simp[kX,hi]
  rcases hty with rfl|rfl
  .exact wpAny_pyNext_ascii_end (I.ok.hd hc) st hxi λh' eb=>⟨rfl,I.turned (λb o hb e=>eb b o hb e) f0 f1 f3 f4 f5⟩
  .exact wpAny_pyNext_wide_end (I.ok.hd hc) st hxi λh' eb=>⟨rfl,I.turned (λb o hb e=>eb b o hb e) f0 f1 f3 f4 f5⟩
 self:=λ_ _ _ _ _ st h=>by
  rcases hty with rfl|rfl
  .exact wpAny_pyIter_striter_ascii st h
  .exact wpAny_pyIter_striter_wide st h
def N7(k:PE X l tl):PI X tg l (iStr tl):=by
 intro pins s σ H R I h;refine wU (k pins s σ H _ I h) λv s1 ⟨x,c,I1,j,m⟩=>?_;refine m.a λa e q=>?_;subst e;obtain⟨t,rfl⟩:=j
 have fp: ∀(o:Obj), ∀b∈[↑39],EI X pins c b:=λo b i=>by
  have e:b=s1.heap.objs.size:=by simpa using i
  subst e;exact I1.fpOk (à _) (I1.hok.fresh (à _))
 cases d:(kX a).cps.all (· <128)
 .refine wpAny_pyIter_wide d ?_;exact Yt ↑39 ([↑39]) _ _ c rfl (I1.kept (t':=s1.toks) λb o e=>hP0 _ e) (WP _ "str_iterator" a t (.inr rfl)) (Z1 _ (ä _ rfl) rfl rfl) (fp default) q
 .refine wpAny_pyIter_ascii d ?_;exact Yt ↑39 ([↑39]) _ _ c rfl (I1.kept (t':=s1.toks) λb o e=>hP0 _ e) (WP _ "str_ascii_iterator" a t (.inl rfl)) (Z1 _ (ä _ rfl) rfl rfl) (fp default) q
end
section
def PU(X:Cx)(e:Expr)(t:TE):Prop:= ∀(i:Nat)(x:Str)(pos' pos:Pos),X.N.Nodup->X.N[i]? =some x->Loc ↑23 x->(X.fn x=true\/X.env.scope.names.lookup x=some .local)->
 swapsWith e (some (.Name x pos')) pos.line X.env=pure true->PS X (.Assign [.Name x pos'] e pos) (K2 t (Ln i))
def Uu(T)(idx)
  (hi:Tx C X tg iter wi) (hCx: ∀c d z fp pins σ,Inv X pins σ z d->C (zY X sc T idx c d z fp)) (hB:AV ↑23 X.N sc idx=true)
  (hg: ∀C d u fp,PG (zY X sc T idx C d u fp) tg g)
  (hc: ∀C d u fp,Id (zY X sc T idx C d u fp) ifs (tc C d u fp))
  (he: ∀C d u fp,PE (zY X sc T idx C d u fp) elt (te C d u fp))
  (hs: ∀x,foldedSetIterable iter X.env x=pure x:=by intro _;rfl):
  PU X ↑27 (Md wi g tc te T.length idx):=by
 intro i x pos' A E p F G v pins s σ H D I h;rw[exec_Assign_Name_used _ _ _ _ v];refine wB (đ (wB ?_));refine wB (wU (WO T idx hi hCx hB hg hc he hs I h λL C K H' _ P j y q=>?_) λ_ O B=>wP (wP B));refine wpAny_assign_Name (PN (P K.heap (Heap.SameBut.refl _ _)) E p F (show RelV (.ref L) _ from rfl) (λO M ⟨a,w,k⟩=>?_) G);obtain⟨m,y⟩:=y
 have r:C≠a:=by
  rintro rfl;rcases k with k|k
  .exact j.2.1 k
  .exact j.2.2.2.2.1 x _ k rfl
 refine Z8 m (y.sameBut w r) (λh' n=>(Z0 _ H' ?_ q));exact M.turned (λb o J e=>(n.2 b J).trans e) j.1 j.2.1 j.2.2.2.1 j.2.2.2.2.1 j.2.2.2.2.2
end
end L2
namespace L2
namespace M
open PySem PySem.Spec PyProof.Rows
def Mh(e:RelV y u)(d:RelV x v)(i:tO y=true)(h:tO x=true):SeqAt.RcAt A s u v (Ul y x)/\SeqAt.RcNeAt A s u v (!Ul y x):=by
 cases y with
 |non=>
  cases e
  cases x with
  |non=>cases d;exact⟨.none_none,.none_none⟩
  |bl b=>cases d;exact⟨.none_bool b,.none_bool b⟩
  |int b=>obtain⟨t,rfl⟩:=d;exact⟨.none_int b t,.none_int b t⟩
  |str b=>obtain⟨t,rfl⟩:=d;exact⟨.none_str b t,.none_str b t⟩
  |_=>cases h
 |bl a=>
  cases e
  cases x with
  |non=>cases d;exact⟨.bool_none a,.bool_none a⟩
  |bl b=>cases d;exact⟨.bool_bool a b,.bool_bool a b⟩
  |int b=>obtain⟨t,rfl⟩:=d;exact⟨.bool_int a b t,.bool_int a b t⟩
  |str b=>obtain⟨t,rfl⟩:=d;exact⟨.bool_str a b t,.bool_str a b t⟩
  |_=>cases h
 |int a=>
  obtain⟨c,rfl⟩:=e
  cases x with
  |non=>cases d;exact⟨.int_none a c,.int_none a c⟩
  |bl b=>cases d;exact⟨.int_bool a c b,.int_bool a c b⟩
  |int b=>obtain⟨t,rfl⟩:=d;exact⟨.int_int a c b t,.int_int a c b t⟩
  |str b=>obtain⟨t,rfl⟩:=d;exact⟨.int_str a c b t,.int_str a c b t⟩
  |_=>cases h
 |str a=>
  obtain⟨c,rfl⟩:=e
  cases x with
  |non=>cases d;exact⟨.str_none a c,.str_none a c⟩
  |bl b=>cases d;exact⟨.str_bool a c b,.str_bool a c b⟩
  |int b=>obtain⟨t,rfl⟩:=d;exact⟨.str_int a c b t,.str_int a c b t⟩
  |str b=>obtain⟨t,rfl⟩:=d;exact⟨.str_str a c b t,.str_str a c b t⟩
  |_=>cases h
 |_=>cases i
abbrev Six(A:Around)(s:Shared)(u v:Value):Prop:=SeqAt.EqAt A s u v false/\SeqAt.EqAt A s v u false/\SeqAt.RcAt A s u v false/\SeqAt.RcAt A s v u false/\SeqAt.RcNeAt A s u v true/\SeqAt.RcNeAt A s v u true
def QH(d:RelV x v)(e:tO x=true)(c:s.heap.IsList l items)(a:A.units<cLine):Six A s (.ref l) v:=by
 cases x with
 |non=>cases d;exact⟨.list_none c a,.none_list c a,.list_none c a,.none_list c a,.list_none c a,.none_list c a⟩
 |bl b=>cases d;exact⟨.list_bool b c a,.bool_list b c a,.list_bool b c a,.bool_list b c a,.list_bool b c a,.bool_list b c a⟩
 |int b=>obtain⟨t,rfl⟩:=d;exact⟨.list_int b t c a,.int_list b t c a,.list_int b t c a,.int_list b t c a,.list_int b t c a,.int_list b t c a⟩
 |str b=>obtain⟨t,rfl⟩:=d;exact⟨.list_str b t c a,.str_list b t c a,.list_str b t c a,.str_list b t c a,.list_str b t c a,.str_list b t c a⟩
 |_=>cases e
def IG(d:RelV x v)(e:tO x=true)(c:s.heap.IsTuple l items)(a:A.units<cLine):Six A s (.ref l) v:=by
 cases x with
 |non=>cases d;exact⟨.tuple_none c a,.none_tuple c a,.tuple_none c a,.none_tuple c a,.tuple_none c a,.none_tuple c a⟩
 |bl b=>cases d;exact⟨.tuple_bool b c a,.bool_tuple b c a,.tuple_bool b c a,.bool_tuple b c a,.tuple_bool b c a,.bool_tuple b c a⟩
 |int b=>obtain⟨t,rfl⟩:=d;exact⟨.tuple_int b t c a,.int_tuple b t c a,.tuple_int b t c a,.int_tuple b t c a,.tuple_int b t c a,.int_tuple b t c a⟩
 |str b=>obtain⟨t,rfl⟩:=d;exact⟨.tuple_str b t c a,.str_tuple b t c a,.tuple_str b t c a,.str_tuple b t c a,.tuple_str b t c a,.str_tuple b t c a⟩
 |_=>cases e
def Mi(h:tO y=true):Ul y y=true:=by cases y<;>first |rfl|(simp[Ul];done)|exact absurd h xF0
abbrev K3:=Option Key
inductive NK where
 |key (k:K3)|tup (ks:List NK)
instance:DecidableEq NK:=λ_ _=>Classical.propDecidable _
section
variable(knd:KeyKind prog w K3)
mutual
def QI(h:Heap):NK->Ł->Prop
 |.key k,v=>knd.is k v=true
 |.tup ks,v=> ∃a o d n,v=.ref a/\h.get? a=some o/\o.cls=.type "tuple"/\o.data=.seq d n/\DH h ks d.toList
def DH(h:Heap):List NK->List Ł->Prop
 |[],vs=>vs=[]
 |k::ks,vs=> ∃v r,vs=v::r/\QI h k v/\DH h ks r
end
mutual
def IH:NK->Int
 |.key k=>knd.hash k
 |.tup ks=>reduceHash (Builtin.Tuple.tupleHashOf (KZ ks))
def KZ:List NK->List Int
 |[]=>[]
 |k::ks=>IH k::KZ ks
end
mutual
def LB:NK->Nat
 |.key _=>1
 |.tup ks=>iI ks+1
def iI:List NK->Nat
 |[]=>0
 |k::ks=>LB k+iI ks
end
mutual
def LC:NK->Nat
 |.key _=>0
 |.tup ks=>II ks+1
def II:List NK->Nat
 |[]=>0
 |k::ks=>max (LC k) (II ks)
end
variable{knd}
theorem nH:QI knd h (.key k) v↔knd.is k v=true:=by unfold QI;exact Iff.rfl
def jW:QI knd h (.tup ks) v↔ ∃a o d n,v=.ref a/\h.get? a=some o/\o.cls=.type "tuple"/\o.data=.seq d n/\DH knd h ks d.toList:=by
 conv=>lhs;unfold QI
theorem bO:DH knd h [] vs↔vs=[]:=by unfold DH;exact Iff.rfl
def xS:DH knd h (k::ks) vs↔ ∃v r,vs=v::r/\QI knd h k v/\DH knd h ks r:=by
 conv=>lhs;unfold DH
mutual
theorem TD{h:Heap}: ∀{x y:NK}{v:Ł},QI knd h x v->QI knd h y v->x=y
 |.key k,.key k',v,hx,hy=>by rw[knd.inj v k k' (nH.mp hx) (nH.mp hy)]
 |.key k,.tup ks,v,hx,hy=>by obtain⟨a,o,d,n,rfl,_⟩:=jW.mp hy;have:=knd.byValue _ _ (nH.mp hx);simp[carriedByValue]at this
 |.tup ks,.key k,v,hx,hy=>by obtain⟨a,o,d,n,rfl,_⟩:=jW.mp hx;have:=knd.byValue _ _ (nH.mp hy);simp[carriedByValue]at this
 |.tup ks,.tup ks',v,hx,hy=>by
  obtain⟨a,o,d,n,e,r,_,p,hi⟩:=jW.mp hx;obtain⟨u,q,c,s,m,j,_,b,i⟩:=jW.mp hy;rw[e]at m;cases m;obtain rfl:o=q:=å (r.symm.trans j);rw[p]at b;injection b with h1 _
  subst h1;rw[WQ hi i]
theorem WQ{h:Heap}: ∀{xs ys:List NK}{vs:A0},DH knd h xs vs->DH knd h ys vs->xs=ys
 |[],[],_,_,_=>rfl
 |[],y::ys,vs,hx,hy=>by obtain⟨v,r,e,_⟩:=xS.mp hy;rw[bO.mp hx]at e;cases e
 |x::xs,[],vs,hx,hy=>by obtain⟨v,r,e,_⟩:=xS.mp hx;rw[bO.mp hy]at e;cases e
 |x::xs,y::ys,vs,hx,hy=>by obtain⟨v,r,e,d,i⟩:=xS.mp hx;obtain⟨j,k,c,b,a⟩:=xS.mp hy;rw[e]at c;cases c;rw[TD d b,WQ i a]
end
mutual
theorem WR{h h':Heap}(m: ∀a o d n,h.get? a=some o->o.data=.seq d n->h'.get? a=some o): ∀{x:NK}{v:Ł},QI knd h x v->QI knd h' x v
 |.key k,v,hx=>nH.mpr (nH.mp hx)
 |.tup ks,v,hx=>by obtain⟨a,o,d,n,e,ho,q,hd,hi⟩:=jW.mp hx;exact jW.mpr ⟨a,o,d,n,e,m a o d n ho hd,q,hd,QK m hi⟩
theorem QK{h h':Heap}(m: ∀a o d n,h.get? a=some o->o.data=.seq d n->h'.get? a=some o): ∀{xs:List NK}{vs:A0},DH knd h xs vs->DH knd h' xs vs
 |[],vs,hx=>bO.mpr (bO.mp hx)
 |x::xs,vs,hx=>by obtain⟨v,r,e,q,u⟩:=xS.mp hx;exact xS.mpr ⟨v,r,e,WR m q,QK m u⟩
end
theorem LD: ∀d:List NK,KZ knd d=d.map (IH knd)
 |[]=>by unfold KZ;rfl
 |k::d=>by unfold KZ;rw[LD d];rfl
def LE:iI []=0:=by rw[iI]
def AW(k)(ks):iI (k::ks)=LB k+iI ks:=by rw[iI]
def LF(k)(ks):II (k::ks)=max (LC k) (II ks):=by rw[II]
def tP(ks):LC (.tup ks)=II ks+1:=by rw[LC]
theorem DS: ∀ xs ys ,iI (xs++ys)=iI xs+iI ys
 |[],ys=>by rw[LE,ĸ,Į]
 |x::xs,ys=>by rw[List.cons_append,AW,AW,DS xs ys];lia
def FE{s:ŀ}(h:QI knd s.heap (.tup ks) (.ref a)):s.TypeIs (.ref a) "tuple":=by refine(jW.mp h).i λd o _ n g=>g.k λe b c _=>?_;cases e;exact Z8 o b c
theorem WS: ∀ n {A}{E}{s}{k}{v}{Q},LC k<=n->A.units+n<cLine->QI knd s.heap k v->Q (IH knd k) {s with toks:=s.toks+LB k}->wpAny ↑7 A (pyHash v) Q E s
 |n,A,E,s,.key k,v,Q,_,_,q,h=>knd.pyHash (nH.mp q) (by rw[LB]at h;exact h)
 |0,A,E,s,.tup d,v,Q,hd,_,_,_=>by rw[tP]at hd;lia
 |n+1,A,E,s,.tup d,v,Q,hdep,hu,q,h=>by
  refine(jW.mp q).o λa o _ m g ho I hd hi=>?_;subst g;have p:s.TypeIs (.ref a) "tuple":=(Z8 o ho I)
  rw[tP]at hdep
  have z:=by
   have: ∀d:List NK,II d<=n-> ∀k∈d,LC k<=n:=by
    intro d
    induction d with
    |nil=>intro _ k q;simp at q
    |cons x xs ih=>
     intro D k q;rw[LF]at D;rcases mC.mp q with rfl|q
     .lia
     .exact ih #[0] k q
   exact this d #[0]
  rw[IH,LB,LD]at h
  first |refine wB (wpAny_cRoomFor_or (.inr #[0]) ?_)|skip
  refine wB (Ĺ p F.slot_tuple_hash.lookup ?_);refine wB (Ĺ p F.slot_tuple_hash.lookup ?_);refine wB (wpAny_callSpecialIfBoundUnlessNone?_slot p F.slot_tuple_hash (Ă F.slot_tuple_hash p F.entry_tuple_hash ?_ (F.args_tuple_hash_1 _)));show wpAny _ _ (Builtin.Tuple.tupleItemsOf _ >>= _) _ _ s;refine wB (wpAny_tupleItemsOf ho hd ?_);refine wB ?_;rw[<-Array.forIn_toList]
  refine wpAny_forIn_list _
   (λrest (b:Array Int) B=> ∃c left,d=c++left/\DH knd s.heap left rest/\b.toList=c.map (IH knd)/\B={s with toks:=s.toks+iI c})
   _ ?_ ?_ _ _ (ZB ([]) d rfl hi rfl (by rw[LE];rfl))
  .rintro x rest b B ⟨c,left,rfl,i,u,rfl⟩
   cases left with
   |nil=>rw[bO]at i;cases i
   |cons k ks'=>
    refine(xS.mp i).b λv r e C y=>?_;cases e;refine wB (WS n (z k (by simp)) #[0] C ?_);have G:iI (c++[k])=iI c+LB k:=by rw[DS,AW];rfl
    first
     |exact wP (ZB (c++[k]) ks' (by simp) y (by simp[u]) (by simp[add_assoc,G]))
     |exact wB _
  .rintro b B ⟨c,left,rfl,i,u,rfl⟩
   cases left with
   |cons k ks'=>refine(xS.mp i).d λv r e _=>?_;cases e
   |nil=>
    rw[aN]at h;show wpAny _ _ (retInt _) _ _ _;rw[u];refine wpAny_ret_mkInt ?_;show wpAny _ _ (if _=true then _ else _) Q E _;unfold reduceHash at h;by_cases j:(decide (-(2:Int) ^ 63<=Builtin.Tuple.tupleHashOf (c.map (IH knd)))&&decide (Builtin.Tuple.tupleHashOf (c.map (IH knd))<2 ^ 63))=true
    .rw[iP j];rw[iP j]at h;exact wP (by simpa [add_assoc]using h)
    .rw[iN0 j];rw[iN0 j]at h;exact wB (wpAny_rule (wP (by simpa [add_assoc]using h)))
end
section
def Ii(h:Q 0xFCA86420 {s with toks:=s.toks+1}):wpAny ↑7 A (pyHash .none) Q E s:=by
 refine wB ?_;rw[cRoomFor];refine wP ?_;refine wB (Ĺ (typeIs_none s) F.slot_NoneType_hash.lookup ?_);refine wB (Ĺ (typeIs_none s) F.slot_NoneType_hash.lookup ?_)
 refine wB (wpAny_callSpecialIfBoundUnlessNone?_slot (typeIs_none s) F.slot_NoneType_hash
  (Ă F.slot_NoneType_hash (typeIs_none s) F.entry_NoneType_hash
   (wpAny_ret_mkInt ?_) (F.args_NoneType_hash_1 _)))
 show wpAny _ _ _ Q E _;exact wP h
def zBX:K3->Ł->Bool
 |some k,v=>EZ k v
 |none,v=>v==.none
def tQ: ∀{k}{v},zBX k v=true->(∃i t,k=some (.inl i)/\v=Value.int i t)\/(∃x t,k=some (.inr x)/\v=Value.str x t)\/(k=none/\v=.none)
 |some k,v,h=>by
  rcases yL h with⟨i,t,rfl,e⟩|⟨x,t,rfl,e⟩
  .exact .inl (Z0 i t rfl e)
  .exact .inr (.inl (Z0 x t rfl e))
 |none,v,h=>.inr (.inr ⟨rfl,eq_of_beq h⟩)
def mk(prog)(w):KeyKind prog w K3 where
 is:=zBX
 hash:=λ|some k=>zAP w k|none=>0xFCA86420
 inj:=λv a b ha hb=>by rcases tQ ha with⟨i,t,rfl,rfl⟩|⟨x,t,rfl,rfl⟩|⟨rfl,rfl⟩<;>rcases tQ hb with⟨j,u,rfl,e⟩|⟨y,u,rfl,e⟩|⟨rfl,e⟩<;>first |(injection e with e1 _;rw[e1];done)|rfl|exact nomatch e
 byValue:=λk v h=>by rcases tQ h with⟨i,t,rfl,rfl⟩|⟨x,t,rfl,rfl⟩|⟨rfl,rfl⟩<;>rfl
 pyHash:=λhv h=>by
  rcases tQ hv with⟨i,t,rfl,rfl⟩|⟨x,t,rfl,rfl⟩|⟨rfl,rfl⟩
  .exact wpAny_pyHash_int h
  .exact wpAny_pyHash_str h
  .exact Ii h
 eqBool:=λ{A} {E} {s} {a} {b} {u} {v} {Q} hu hv h=>by
  cases a with
  |some a=>
   cases b with
   |some b=>exact(kD prog w).eqBool hu hv (by rw[show decide (some a=some b)=decide (a=b)from by simp]at h;exact h)
   |none=>
    cases eq_of_beq hv;rw[show decide (some a=none)=false from dF0 λz=>nomatch z]at h;rcases yL (show EZ a u=true from hu)with⟨i,t,rfl,rfl⟩|⟨x,t,rfl,rfl⟩
    .exact SeqAt.EqAt.int_none i t _ _ _ _ h
    .exact SeqAt.EqAt.str_none x t _ _ _ _ h
  |none=>
   cases eq_of_beq hu
   cases b with
   |some b=>
    rw[show decide (none=some b)=false from dF0 λz=>nomatch z]at h;rcases yL (show EZ b v=true from hv)with⟨i,t,rfl,rfl⟩|⟨x,t,rfl,rfl⟩
    .exact SeqAt.EqAt.none_int i t _ _ _ _ h
    .exact SeqAt.EqAt.none_str x t _ _ _ _ h
   |none=>
    cases eq_of_beq hv;rw[show decide ((none:K3)=none)=true from dT0 rfl]at h;exact SeqAt.EqAt.same _ _ _ _ _ h
 «strs»:=λk x t v h=>by
  rcases tQ h with⟨i,u,rfl,e⟩|⟨y,u,rfl,e⟩|⟨rfl,e⟩
  .exact nomatch e
  .injection e with e1 _
   subst e1;cases v<;>rfl
  .exact nomatch e
def Uv(a b):decide (NK.key a=NK.key b)=decide (a=b):=by
 by_cases h:a=b
 .subst h;simp
 .rw[dF0 h,dF0 λz=>h (NK.key.inj z)]
def N8(a)(b):decide (NK.key a=NK.tup b)=false:=dF0 λz=>nomatch z
def N9(a)(b):decide (NK.tup b=NK.key a)=false:=dF0 λz=>nomatch z
def O1(a b):decide (NK.tup a=NK.tup b)=decide (a=b):=by
 by_cases h:a=b
 .subst h;simp
 .rw[dF0 h,dF0 λz=>h (NK.tup.inj z)]
def WT(h:(mk prog w).is k v=true): ∃x:V,RelV x v/\tO x=true:=by
 rcases tQ h with⟨i,t,rfl,rfl⟩|⟨x,t,rfl,rfl⟩|⟨rfl,rfl⟩
 .exact⟨.int i,⟨t,rfl⟩,rfl⟩
 .exact⟨.str x,⟨t,rfl⟩,rfl⟩
 .exact⟨.non,rfl,rfl⟩
def Ij
  (Z: ∀k1∈x, ∀k2 u v  Q ,QI (mk prog w) s.heap k1 u->QI (mk prog w) s.heap k2 v->Q (decide (k1=k2)) s->wpAny ↑7 A (eqBool u v) Q E s)
  (hx:QI (mk prog w) s.heap (.tup x) (.ref a)) (hy:QI (mk prog w) s.heap (.tup y) (.ref b)) (h:P (.done (.ret (.bool (decide (x=y))))) s):
  wpAny ↑7 A (Builtin.«tuple.__eq__» ⟨[.ref a,.ref b],[]⟩) P E s:=by
 refine(jW.mp hx).o λ_ oa xs na e J _ O M=>?_;cases e;refine(jW.mp hy).o λ_ ob X nb e T _ K L=>?_;cases e;show wpAny _ _ (isInstance _ _ >>= _) _ _ s;refine wB (wpAny_isInstance (FE hy) isSubtype_tuple_tuple ?_);refine wB (wpAny_tupleItemsOf J O ?_);refine wB (wpAny_tupleItemsOf T K ?_);refine wB ?_
 refine wpAny_forIn_list _
  (λrest r I=>r.1=none/\I=s/\ ∃B C n j,rest=List.zip n j/\(∀k∈B,k∈x)/\DH _ s.heap B n/\DH _ s.heap C j/\decide (B=C)=decide _/\(n.length==j.length)=(xs.size==X.size))
  _ ?_ ?_ _ _ ⟨rfl,rfl,x,y,_,_,rfl,λk D=>D,M,L,rfl,by simp⟩
 .rintro⟨u,v⟩ rest r I ⟨U,rfl,B,C,n,j,F,S,o,c,d,p⟩
  cases B with
  |nil=>rw[bO.mp o]at F;simp at F
  |cons k1 x''=>
   cases C with
   |nil=>rw[bO.mp c]at F;simp at F
   |cons k2 y''=>
    refine(xS.mp o).b λu' z g W q=>?_;subst g;refine(xS.mp c).b λY i R N m=>?_;subst R;obtain⟨⟨rfl,rfl⟩,rfl⟩:=F;refine wB (Z k1 (S k1 mF0) k2 _ _ _ W N ?_);by_cases D:k1=k2
    .subst D;simp only[fT];refine wP ⟨rfl,rfl,x'',y'',z,i,rfl,λk D=>S k (mO _ D),q,m,?_,by simpa using p⟩;rw[<-d];by_cases H:x''=y''
     .simp[H]
     .simp[H]
    .rw[dF0 D];have hf:decide (x=y)=false:=by rw[<-d];simp[D]
     rw[hf]at h;exact wB (wP (wP (wP h)))
 .rintro⟨r1,r2⟩ I ⟨U,rfl,B,C,n,j,F,S,o,c,d,p⟩;subst U;refine wP ?_
  have G:(xs.size==X.size)=decide (x=y):=by
   rw[<-d, <-p]
   cases B with
   |nil=>
    rw[bO.mp o]
    cases C with
    |nil=>rw[bO.mp c];simp
    |cons k2 y''=>refine(xS.mp c).b λY i V N m=>?_;subst V;simp
   |cons k1 x''=>
    refine(xS.mp o).b λu' z ac W q=>?_;subst ac
    cases C with
    |nil=>rw[bO.mp c];simp
    |cons k2 y''=>refine(xS.mp c).b λY i ad N m=>?_;subst ad;simp at F
  show P (.done (.ret (.bool _))) I;rw[G];exact h
theorem LG: ∀{d},II d<=n-> ∀k∈d,LC k<=n
 |[],_,k,hk=>by simp at hk
 |x::xs,hx,k,hk=>by
  rw[LF]at hx;rcases mC.mp hk with rfl|hk
  .lia
  .exact LG #[0] k hk
theorem WU: ∀ n {A}{E}{s}{x y}{u v}{Q},LC x<=n->A.units+n<cLine->QI (mk prog w) s.heap x u->QI (mk prog w) s.heap y v->Q (decide (x=y)) s->wpAny ↑7 A (eqBool u v) Q E s
 |n,A,E,s,.key a,.key b,u,v,Q,_,_,hx,hy,h=>(mk prog w).eqBool (nH.mp hx) (nH.mp hy) (by rw[Uv]at h;exact h)
 |n,A,E,s,.key a,.tup b,u,v,Q,_,hu,hx,hy,h=>by obtain⟨z,q,B⟩:=WT (nH.mp hx);refine(jW.mp hy).o λl o _ m K j k c _=>?_;subst K;rw[N8]at h;exact(IG q B ⟨o,j,k,m,c⟩ #[0]).2.1 prog w E Q h
 |n,A,E,s,.tup a,.key b,u,v,Q,_,hu,hx,hy,h=>by obtain⟨z,q,B⟩:=WT (nH.mp hy);refine(jW.mp hx).o λl o _ m L j k c _=>?_;subst L;rw[N9]at h;exact(IG q B ⟨o,j,k,m,c⟩ #[0]).1 prog w E Q h
 |0,A,E,s,.tup a,.tup b,u,v,Q,c,_,hx,hy,h=>by rw[tP]at c;lia
 |n+1,A,E,s,.tup x,.tup y,u,v,Q,c,hu,hx,hy,h=>by
  refine(jW.mp hx).i λa _ _ _ g=>g.elim λH _=>?_;refine(jW.mp hy).i λb _ _ _ J=>J.elim λG _=>?_;subst H G;rw[tP]at c;rw[O1]at h;unfold eqBool
  try with_reducible refine ö ?_
  by_cases d:(Value.ref a==Value.ref b)=true
  .rw[iP d];have e:=by have:=eq_of_beq d;injection this
   subst e;have:=NK.tup.inj (TD hx hy);subst this;exact wB (wpAny_rule (wP (by simpa using h)))
  .rw[iN0 d]
   refine wB (wpAny_richCompare_same_room (FE hx) (FE hy) F.slot_tuple_eq
    (Ă F.slot_tuple_eq (FE hx) F.entry_tuple_eq (Ij (λC i I u v Q p r D=>WU n (LG #[0] C i) #[0] p r D) hx hy (Z1 _ rfl (λe=>nomatch e) (ý h))) (F.args_tuple_eq_2 _ _)) #[0])
theorem Dr: ∀ n m {A}{E}{s}{x}{u}{Q},LC x<=n->n<m->QI (mk prog w) s.heap x u->Q true s->wpAny ↑7 A (eqIsQuiet m u) Q E s
 |n,m,A,E,s,.key k,u,Q,_,_,hx,h=>by rw[eqIsQuiet_byValue m ((mk prog w).byValue _ _ (nH.mp hx))];exact wP h
 |0,m,A,E,s,.tup ks,u,Q,hd,_,hx,h=>by rw[tP]at hd;lia
 |n+1,0,A,E,s,.tup ks,u,Q,hd,hm,hx,h=>by lia
 |n+1,m+1,A,E,s,.tup ks,u,Q,hdp,hm,hx,h=>by
  refine(jW.mp hx).o λa o _ j g ho z hd hi=>?_;subst g;have q:s.TypeIs (.ref a) "tuple":=(Z8 o ho z)
  rw[tP]at hdp;unfold eqIsQuiet;refine wB (Ĺ q F.slot_tuple_eq.lookup ?_);refine wB (wpAny_isInstance q isSubtype_tuple_tuple ?_);refine wB (wpAny_seqItems ho hd ?_);refine wB ?_;rw[<-Array.forIn_toList];refine wpAny_forIn_list _ (λrest r i=>r.1=none/\i=s/\ ∃left,(∀k∈left,k∈ks)/\DH _ s.heap left rest) _ ?_ ?_ _ _ ⟨rfl,rfl,ks,λk d=>d,hi⟩
  .rintro v rest r i ⟨p,rfl,left,b,c⟩
   cases left with
   |nil=>rw[bO]at c;cases c
   |cons k left=>
    refine(xS.mp c).b λH D e y B=>?_;cases e;refine wB (Dr n m (LG #[0] k (b k mF0)) #[0] y ?_);exact wP ⟨rfl,rfl,left,λk d=>b k (mO _ d),B⟩
  .rintro⟨G,C⟩ i ⟨p,rfl,_⟩;subst p;exact wP h
end
def Mj(prog)(w):HeapKind prog w NK where
 is:=λh k a=>QI (mk prog w) h k (.ref a)/\LC k<=4
 hash:=IH (mk prog w)
 draws:=LB
 room:=λA=>A.units+4<cLine
 inj:=λhx hy=>TD hx.1 hy.1
 keeps:=λx ho hd hs=>⟨WR (λa o' items n e q=>(hs.2 a λz=>by subst z;rw[ho]at e;cases e;rw[hd]at q;cases q).trans e) x.1,x.2⟩
 pyHash:=λhu hk h=>WS 4 hk.2 hu hk.1 h
 eqBool:=λhu hx hy h=>WU 4 hx.2 hu hx.1 hy.1 h
 quiet:=λhk h=>Dr 4 8 hk.2 ↑4 hk.1 h
noncomputable def DN(P:ł)(w:World)(a:Addr)(xs:List (NK×Addr×Ł)):HO:=
 .ext λh=>↑8<=sizeLine/\(a==sysModules)=false/\ ∃o es b,h.get? a=some o/\o.ExactDict/\o.data=.dict es b/\es.toList=xs.map (entryOfKey (Mj P w))/\(xs.map (·.1)).Nodup
end M
end L2
namespace L2
open PySem PySem.Spec PyProof.Rows
def Tl(h:Heap)(e T:Addr)(cls:Ł)(d:Option Addr)(i:Ł):Prop:=
 ∃a b c ts,h.get? e=some a/\a.cls=cls/\a.dict=d/\a.data=.fields b/\b[1]? =some (.ref T)/\T≠e/\h.get? T=some c/\c.data=.fields ts/\ts[3]? =some i/\b[2]? =some .none
def O2(h:Heap)(e:Addr)(cls:Ł)(d:Option Addr):Prop:= ∃a b,h.get? e=some a/\a.cls=cls/\a.dict=d/\a.data=.fields b/\b[1]? =some .none/\b[2]? =some .none
structure Mvd(fs:B9)(e T:Addr)(h h':Heap):Prop where
 keep: ∀b o,b≠e->b≠T->b∉fs->h.get? b=some o->h'.get? b=some o
 slot: ∀b o,b≠e->b≠T->h.get? b=some o-> ∃sl,h'.get? b=some {o with slots:=sl}
 there: ∀b o,h.get? b=some o-> ∃o',h'.get? b=some o'
def Mvd.new(a:Mvd fs e T h d)(n:h.get? T'=none)(b:Mvd fs e T' d m):Mvd fs e T h m:=by
 have ne: ∀c o,h.get? c=some o->c≠T':=λc o q z=>by rw[z,n]at q;cases q
 exact⟨λc o d m k q=>b.keep c o d (ne c o q) k (a.keep c o d m k q),λc o d m q=>by obtain⟨sl,i⟩:=a.slot c o d m q;obtain⟨j,p⟩:=b.slot c _ d (ne c o q) i;exact⟨j,p⟩,λc o q=>let ⟨r,i⟩:=a.there c o q;b.there c r i⟩
theorem LH(f)(o):(Obj.mapFields f o).dict=o.dict:=by obtain⟨c,d,a,sl⟩:=o;cases a<;>rfl
section
variable{L:Addr}
def Mk(C:A.frames=some (env::outer))(F:s.heap.FunFrames base (env::outer))(G:env.frame=some L)
  (he:s.heap.get? e=some oe) (hd:oe.data=.fields vs) (hsz:1<vs.size) (h2:vs[2]? =some .none)
  (h: ∀h' D,s.heap.get? D=none->Mvd (OL (env::outer)) e e s.heap h'->Tl h' e D oe.cls oe.dict (rawInt L)->Q () {s with heap:=h'}):
  wpAny M A (do let a <-frameOf env;let pl <-entryPlaceOf L hadNext;let b <-EntryCells.newEntry head a .none (rawInt L) .none pl;setField (.ref e) 1 b) Q E s:=by
 have v:e∉(env::outer).filterMap (·.frame):=λH=>by obtain⟨_,o,y,B⟩:=F.mem H;rw[he]at y;injection y with y;subst y;exact B vs hd
 refine wB (wpAny_frameOf_fun C F G λc d=>?_);refine wB (wpAny_entryPlaceOf λpl u=>?_);unfold EntryCells.newEntry newFields;refine wB (ę ?_ (u.sizeOk5 _ _ _ _ _));have k:c.get? e=some oe:=(d.2.1 e v).trans he;have m:=hP0 (h:=c) {cls:=.type "traceback",dict:=none,data:=.fields ([head,.ref L,.none,rawInt L,.none]++(if pl.isEmpty then List.replicate 6 Value.none else pl)).toArray} k;refine wpAny_setField m hd hsz ?_;have w:c.objs.size≠e:=ċ (ã k);have n:=ē hd (·.setIfInBounds 1 (Value.ref c.objs.size));have j:=Ć _ m (ģ n)
 have p:=(ó (c.push {cls:=.type "traceback",dict:=none,data:=.fields ([head,.ref L,.none,rawInt L,.none]++(if pl.isEmpty then List.replicate 6 Value.none else pl)).toArray})
  (Obj.mapFields (·.setIfInBounds 1 (Value.ref c.objs.size))) (Ne.symm w)).trans (ä c rfl)
 have keep: ∀b o,b≠e->c.get? b=some o->
   ((c.push {cls:=.type "traceback",dict:=none,data:=.fields ([head,.ref L,.none,rawInt L,.none]++(if pl.isEmpty then List.replicate 6 Value.none else pl)).toArray}).update e (Obj.mapFields (·.setIfInBounds 1 (Value.ref c.objs.size)))).get? b=some o:=
  λb o i r=>by rw[ó _ _ (Ne.symm i)];exact hP0 _ r
 refine h _ c.objs.size ?_ ⟨λb o i _ z r=>keep b o i ((d.2.1 b z).trans r),λb o i _ r=>?_,λb o r=>?_⟩ ?_
 .cases q:s.heap.get? c.objs.size with
  |none=>rfl
  |some o=>
   obtain⟨sl,hs⟩:=d.2.2 _ o q;exact absurd (ã hs) (ī _)
 .obtain⟨sl,hs⟩:=d.2.2 b o r;exact⟨sl,keep b _ i hs⟩
 .by_cases i:b=e
  .subst i;exact⟨_,j⟩
  .obtain⟨sl,hs⟩:=d.2.2 b o r;exact⟨_,keep b _ i hs⟩
 .exact⟨_,_,_,_,j,Obj.cls_mapFields _ _,LH _ _,n,by simp[hsz],w,p,rfl,by first |(simp;done)|(rcases u with rfl|⟨_,_,_,_,_,_,_,rfl⟩<;>simp),by rw[Array.getElem?_setIfInBounds_ne (by decide)];exact h2⟩
def setT(i:h0.get? T=some oT)(h:oT.data=.fields ts):Mvd (OL (env::outer)) e T h0 (h0.update T (Obj.mapFields (·.setIfInBounds 3 x))):=by
 have a: ∀b,b≠T->(h0.update T (Obj.mapFields (·.setIfInBounds 3 x))).get? b=h0.get? b:=λb d=>ó _ _ (Ne.symm d);refine⟨λb o _ c _ d=>(a b c).trans d,λb o _ c d=>⟨o.slots,(a b c).trans d⟩,λb o d=>?_⟩;by_cases c:b=T
 .subst c;exact⟨_,Ć _ i (ģ (ē h _))⟩
 .exact⟨o,(a b c).trans d⟩
def QL(D:A.frames=some (env::outer))(U:s.heap.FunFrames base (env::outer))(I:env.frame=some L)(a:Tl s.heap e T cls d .none)
  (h: ∀h' u,s.heap.get? u=none->Mvd (OL (env::outer)) e T s.heap h'->Tl h' e u cls d (rawInt L)->Q () {s with heap:=h'}):wpAny M A (noteFrame (.ref e) env) Q E s:=by
 obtain⟨X,H,W,ts,F,rfl,rfl,J,G,C,y,k,K,O⟩:=a;unfold noteFrame;simp only[I];refine wB (ù F J G ?_);rw[iP (by simp)];refine wB (ù y k K ?_);rw[iN0 (by simp[rawInt])];refine wB (wpAny_setField y k (Ħ.mp K).1 ?_);have w:=setT (env:=env) (outer:=outer) (e:=e) (x:=Value.none) y k;have j: ∀b,b≠T->(s.heap.update T (Obj.mapFields (·.setIfInBounds 3 Value.none))).get? b=s.heap.get? b:=λb a=>ó _ _ (Ne.symm a);have i: ∀b o,s.heap.get? b=some o->(∀H,o.data≠.fields H)->b≠T:=λb o a p q=>by rw[q,y]at a;injection a with a;subst a;exact p ts k
 refine Mk D (U.of_keeps λb o a p=>⟨o,(j b (i b o a p)).trans a,rfl⟩) I ((j e (Ne.symm C)).trans F) J (Ħ.mp G).1 O
  λh' u n m f=>h h' u ?_ ⟨λb o c r v a=>m.keep b o c c v (w.keep b o c r v a),λb o c r a=>?_,λb o a=>?_⟩ f
 .cases q:s.heap.get? u with
  |none=>rfl
  |some o=>
   obtain⟨N,hs⟩:=w.there _ o q;have P:(s.heap.update T _).get? u=none:=n;rw[P]at hs;cases hs
 .obtain⟨sl,z⟩:=w.slot b o c r a;obtain⟨B,S⟩:=m.slot b _ c c z;exact⟨B,S⟩
 .obtain⟨N,z⟩:=w.there b o a;exact m.there b N z
def rH(o:Tl s.heap e T cls d fl)(h: ∀h',Mvd (OL (env::outer)) e T s.heap h'->Tl h' e T cls d .none->Q () {s with heap:=h'}):wpAny M A (setFlight (.ref e) none) Q E s:=by obtain⟨q,p,u,ts,j,rfl,rfl,m,k,c,i,a,n,r⟩:=o;have b:=(Ħ.mp n).1;refine wB (ù j m k ?_);rw[iP (by simp)];refine wpAny_setField i a b (h _ (setT i a) ?_);exact⟨q,p,_,_,(ó _ _ c).trans j,rfl,rfl,m,k,c,Ć _ i (ģ (ē a _)),ē a _,by simp[b],r⟩
def WX(c:A.frames=some (env::outer))(r:s.heap.FunFrames base (env::outer))(j:env.frame=some L)(o:O2 s.heap e cls d)
  (h: ∀h' q,s.heap.get? q=none->Mvd (OL (env::outer)) e e s.heap h'->Tl h' e q cls d .none->Q () {s with heap:=h'}):wpAny M A (leaving env (.ref e)) Q E s:=by
 refine wB ((by
   refine o.j λw v g=>g.f λi y z k a b=>?_;subst y;subst z;unfold noteFrame;simp only[j];refine wB (ù i k a ?_);exact Mk c r j i k (Ħ.mp a).1 b (λa q n m f=>rH f λb p u=>h b q n (m.new n p) u)))
def Ay(a:A.frames=some (env::outer))(j:s.heap.FunFrames base (env::outer))(c:env.frame=some L)(b:Tl s.heap e T cls d .none)
  (h: ∀h' q,s.heap.get? q=none->Mvd (OL (env::outer)) e T s.heap h'->Tl h' e q cls d .none->Q () {s with heap:=h'}):wpAny M A (leaving env (.ref e)) Q E s:=by
 refine wB (QL a j c b λp q n m f=>rH f λo i k=>h o q n (m.new n i) k)
end
def ObjOk.here(x:ObjOk P w H h a o): ∃d,h.get? a=some d:=by
 cases o with
 |lst xs=>obtain⟨_,_,_,_,e⟩:=x;exact⟨_,e⟩
 |tup xs=>obtain⟨_,_,_,d,e,_⟩:=x;exact⟨_,e⟩
 |dK kvs=>obtain⟨_,_,_,_,o,_,_,e,_⟩:=x;exact⟨_,e⟩
 |dT kvs=>obtain⟨_,_,_,_,o,_,_,e,_⟩:=x;exact⟨_,e⟩
 |set S n=>refine x.i λo _ _ _ b=>b.elim λe _=>?_;exact⟨_,e⟩
 |ins C dx fs=>refine x.h λ_ _ _ e _=>?_;exact⟨_,e⟩
 |own y=>exact x
 |xd fs=>refine x.a λ_ c _=>?_;obtain ⟨_,_,_,e,_⟩:=c;exact⟨_,e⟩
 |rng lo hi=>refine x.l λ_ _ _ e=>?_;exact⟨_,e⟩
 |frz d u=>obtain⟨e,_⟩:=x;exact⟨_,e⟩
 |tbl ps=>exact⟨_,x⟩
 |met f y=>exact⟨_,x⟩
 |ext φ=>refine x.e λ_ e _=>?_;exact e
def HOk.none_of(x:HOk P w H h)(n:h.get? a=none):H a=none:=by
 cases q:H a with
 |none=>rfl
 |some u=>
  obtain⟨b,e⟩:=(x a u q).here;rw[n]at e;cases e
section
def Inv.older(J:↑1)(a:X.ex=[])(n:s.heap.get? b=none):X.s₀.heap.get? b=none:=by
 cases q:X.s₀.heap.get? b with
 |none=>rfl
 |some o=>
  obtain⟨c,e⟩:=J.base.there b o q (by rw[a];simp);rw[n]at e;cases e
def Inv.moved(J:↑1)(A:X.ex=[])(m:Mvd (OL X.stack) e T s.heap h')(ne:X.s₀.heap.get? e=none)(E:X.s₀.heap.get? T=none)(D:H e=none)(F:H T=none):
  Un X.fs [] X.H₀ H X.s₀.heap h'/\HOk X.prog X.w H h':=by
 have a: ∀b:Addr,b∉X.ex:=λb=>by rw[A];simp
 have i: ∀b o,X.s₀.heap.get? b=some o->b≠e:=λb o q z=>by rw[z,ne]at q;cases q
 have h: ∀b o,X.s₀.heap.get? b=some o->b≠T:=λb o q z=>by rw[z,E]at q;cases q
 refine⟨⟨λb o q n j _=>?_,λb o q n j _=>?_,λb o q n _=>J.base.free b o q n (a b),λb o q _=>?_,J.base.tups,J.base.frzs,J.base.tbls⟩,λb u q=>(J.hok b u q).stay (λc v C r=>?_) (λ_ q=>q) λ_ _ q=>q⟩
 .refine m.keep b o (i b o q) (h b o q) (λz=>?_) (J.base.keep b o q n j (a b));rcases mC.mp (J.stkSub b z)with z|z
  .exact absurd z (ê (é (ã q) J.ok.above))
  .exact j z
 .obtain⟨sl,p⟩:=J.base.slot b o q n j (a b);obtain⟨B,G⟩:=m.slot b _ (i b o q) (h b o q) p;exact⟨B,G⟩
 .obtain⟨I,p⟩:=J.base.there b o q (a b);exact m.there b I p
 .have k: ∃z,H c=some z:=by
   rcases C with rfl|C
   .exact⟨_,q⟩
   .exact⟨_,C⟩
  obtain⟨z,d⟩:=k;refine m.keep c v (λy=>by rw[y,D]at d;cases d) (λy=>by rw[y,F]at d;cases d) (λy=>?_) r;rw[J.stkFree c y]at d;cases d
end
def Ik(P:ł)(w:World):Hw:=λa H s E x b=> ∃e T C d H',x=.ref e/\b.os=s.os/\AllBare b.gens/\Un (OL a) [] H H' s.heap b.heap/\HOk P w H' b.heap/\Tl b.heap e T (.ref C) d .none/\
 s.heap.get? e=none/\s.heap.get? T=none/\H' e=none/\H' T=none/\E (.ref C) d H'
structure XOk(X:Cx)(E:XK):Prop where
 pass:SN (Ik X.prog X.w) X E
 born: ∀(pins:L1)(σ:St)(H:Hp)(s:ŀ)(e C:Addr)(d:Option Addr),Inv X pins σ H s->O2 s.heap e (.ref C) d->X.s₀.heap.get? e=none->H e=none->E (.ref C) d H->X.xe (.ref e) s
section
variable{K:P0}
def EM:XOk (JF (Ik P w) P w K mg base N qual scope f cd A outer s H E) E:=by
 refine⟨λpins σ v s1 x F I h=>?_,λpins σ v s1 e C d J b ne a q=>?_⟩
 .obtain⟨e,T,C,d,H',rfl,os,c,un,p,B,ne,y,a,D,q⟩:=h;have J:=I.call' os un p c (λ_ z=>nomatch z);have i:=I.older rfl ne;have k:=I.older rfl y;refine Ay J.ok.frames J.stack rfl B λh' o n m j=>?_;obtain⟨u,r⟩:=J.moved rfl m i k a D;exact⟨e,o,C,d,H',rfl,J.os,J.bare,u,r,j,i,J.older rfl n,a,J.hok.none_of n,q⟩
 .refine WX J.ok.frames J.stack rfl b λh' o n m j=>?_;obtain⟨u,r⟩:=J.moved rfl m ne ne a a;exact⟨e,o,C,d,v,rfl,J.os,J.bare,u,r,j,ne,J.older rfl n,a,J.hok.none_of n,q⟩
end
noncomputable abbrev qC:List Value:=[.type "ValueError",.type "Exception",.type "BaseException",.type "object"]
noncomputable def qn:List Str:=["__class__","__getattribute__","__getattr__","__setattr__","place","ring"]
def tR(h:Heap)(C M:Addr):Prop:=
 ∃nm q N bs m e a s b i j k r o d p c,h.get? C=some (excClassObj nm q C N bs (.ref M::qC) m e a s b i j k r o d p)/\h.Ns N c/\(∀n∈qn,c n=none)/\
  ∃nm q N bs m e a s b i j k r o d p c,h.get? M=some (excClassObj nm q M N bs qC m e a s b i j k r o d p)/\h.Ns N c/\(∀n∈qn,c n=none)
section
variable{os:OsState}
def tS(O:tR h C M)(b:Q ((Value.ref C::.ref M::qC).contains base) ⟨h,g,d,t,os⟩):wpAny Mo A (isSubtype (.ref C) base) Q E ⟨h,g,d,t,os⟩:=by obtain⟨nm,q,N,bs,o,j,a,v,c,m,n,p,u,r,i,s,k,e,_⟩:=O;exact wpAny_isSubtype_exc e b
def rK(O:tR h C M)(i:n∈qn)(k:typeLookup ↑29 n=pure y)(o:Q y ⟨h,g,d,t,os⟩):wpAny Mo A (typeLookup (.ref C) n) Q E ⟨h,g,d,t,os⟩:=by
 obtain⟨nm,q,N,bs,D,v,m,L,r,z,B,G,K,H,u,I,w,j,p,b,_,_,_,_,_,_,_,_,_,_,_,_,_,_,_,_,J,s,c,e⟩:=O;have a:lookupAlong qC n=pure y:=by rw[typeLookup_eq,F.excBase_ValueError.mroIs]at k;exact k
 rw[typeLookup_eq];refine wB (wpAny_mroOf_exc j ?_);rw[lookupAlong_cons];refine wB (wpAny_classOwn_exc j p ?_);rw[b n i,lookupAlong_cons];refine wB (wpAny_classOwn_exc s c ?_);rw[e n i,a];exact wP o
def Ml(O:tR h C M): ∃o,h.get? C=some o/\o.cls=.type "type"/\ ∃d,o.data=.cls d:=by obtain⟨_,_,_,_,_,_,_,_,_,_,_,_,_,_,_,_,_,a,_⟩:=O;exact⟨_,a,rfl,_,rfl⟩
end
def qn1:("__class__":Str)∈qn:=.head _
def qn2:("__getattribute__":Str)∈qn:=.tail _ (.head _)
def qn3:("__getattr__":Str)∈qn:=.tail _ t1M
theorem Mm:typeLookup ↑29 "__class__"=pure (some (.builtin "object.__class__")):=by rw[typeLookup_type,builtinLookup_eq_fast];kernel_rfl
theorem Zn:typeLookup ↑29 "__getattribute__"=pure (some (.builtin "BaseException.__getattribute__")):=by rw[typeLookup_type,builtinLookup_eq_fast];kernel_rfl
theorem WY:typeLookup ↑29 "__getattr__"=pure none:=by rw[typeLookup_type,builtinLookup_eq_fast];kernel_rfl
section
variable{os:OsState}
def Az(O:tR h C M)(e:h.get? a=some o)(c:o.cls=.ref C)(j:R (.ok (.ret (.ref C))) ⟨h,g,d,t,os⟩):
  codeAny ↑7 A (.call (.builtin "getset_descriptor.__get__") ⟨[.builtin "object.__class__",.ref a,.ref C],[]⟩) R ⟨h,g,d,t,os⟩:=by
 have b:(⟨h,g,d,t,os⟩:ŀ).TypeIs (.builtin "object.__class__") "getset_descriptor":=F.typeOf_object_class;have i:(Value.ref C::.ref M::qC).contains (.type (".".intercalate ("object.__class__".cutAt '.').dropLast))=true:=by rw[F.owner_object_class];simp[ĉ]
 refine ė F.slot_gs_get.plain F.entry_gs_get (F.slot_gs_get.check _ _ _ _ _ _ _ _ b (F.args_gs_get _ _ _) ?_)
 repeat (any_goals (first |assumption|(with_reducible refine ì e ?_;rw[c])|(with_reducible refine tS O ?_;rw[i])|wp_step))
 refine⟨Code.quiet_builtin _ ↑21,Ĥ F.entry_object_class ?_⟩
 repeat (any_goals (first |assumption|(with_reducible refine ì e ?_;rw[c])|wp_step))
def QM(O:tR h C M)(c:h.get? a=some o)(j:o.cls=.ref C)(b:Q () ⟨h,g,d,t,os⟩):wpAny Mo A (checkBuiltinCall "BaseException.__getattribute__" ⟨[.ref a,nameV],[]⟩) Q E ⟨h,g,d,t,os⟩:=by
 have i:builtinKind "BaseException.__getattribute__"=some .slot:=by decide+kernel
 have hs:splitId "BaseException.__getattribute__"=some ("BaseException","__getattribute__"):=by decide+kernel
 have e:(Value.ref C::.ref M::qC).contains (.type "BaseException")=true:=by simp[ĉ]
 have k:=F.args_bexc_ga (.ref a) nameV;simp only[checkBuiltinCall,i,hs];refine wB ?_;unfold isInstance
 repeat (first |(with_reducible refine ì c ?_;rw[j])|(with_reducible refine tS O ?_;rw[e])|wp_step)
 exact b
def TF(O:tR h C M)(b:h.get? a=some o)(c:o.cls=.ref C)(j:Q (.done (.ret (.ref C))) ⟨h,g,d,t,os⟩):
  wpAny ↑7 A (Builtin.«object.__getattribute__» ⟨[.ref a,.str "__class__" tk],[]⟩) Q E ⟨h,g,d,t,os⟩:=by
 have e:(⟨h,g,d,t,os⟩:ŀ).TypeIs (.builtin "object.__class__") "getset_descriptor":=F.typeOf_object_class;have k:=F.typeOf_object_class;have m:=F.slot_gs_get.lookup;have i:=F.slot_gs_set.lookup
 repeat (any_goals (first |assumption|(with_reducible refine ì b ?_;rw[c])|with_reducible refine rK O qn1 Mm ?_|wp_step))
 refine Az O b c ?_
 repeat (any_goals (first |assumption|wp_step))
def Il{b:Bool}(O:tR h C M)(c:h.get? a=some o)(e:o.cls=.ref C)(m:Q (.ref C) ⟨h,g,d,t,os⟩):
  wpAny ↑7 A (getAttrBy (.ref a) (.str "__class__" tk) b expr) Q E ⟨h,g,d,t,os⟩:=by
 have n:=F.attrBase_ValueError.ga.bind (.ref a);have j:(expr&&onTheHeap (Value.builtin "BaseException.__getattribute__"))=false:=by cases expr<;>rfl
 have i:(Value.builtin "BaseException.__getattribute__"==Value.builtin "object.__getattribute__")=false:=by decide+kernel
 have k:(onTheHeap (Value.ref C)&&Value.builtin "BaseException.__getattribute__"==Value.builtin "object.__getattribute__")=false:=by rw[i];rfl
 repeat (any_goals (first |assumption|(with_reducible refine ì c ?_;rw[e])|with_reducible refine rK O qn2 Zn ?_|with_reducible refine rK O qn3 WY ?_|wp_step))
 refine (ė F.attrBase_ValueError.ga.plain F.entry_bexc_ga (QM O c e (TF O c e ?_)))
 repeat (any_goals (first |assumption|wp_step))
def XA(O:tR h C M)(c:h.get? a=some o)(b:o.cls=.ref C)(e:Q (some (.ref C)) ⟨h,g,d,t+1,os⟩):wpAny ↑7 A (getAttr? (.ref a) "__class__") Q E ⟨h,g,d,t,os⟩:=by
 unfold getAttr? getAttrBy?
 repeat (any_goals (first |assumption|with_reducible apply Il O c b|wp_step))
def Uw(O:tR h C M)(i:h.get? a=some o)(j:o.cls=.ref C)(p:h.get? D=some {cls:=.type "type",dict:=dD,data:=.cls cD,slots:=sD})(k:h.get? C=some oC)(c:oC.cls=.type "type")(b: ∃m,oC.data=.cls m)(e:(Value.ref C::.ref M::qC).contains (.ref D)=false)(r:Q (.done (.ret (.bool false))) ⟨h,g,d,t+1,os⟩):
  wpAny ↑7 A (Builtin.«isinstance.nested» ⟨[.ref a,.ref D,rawInt 0],[]⟩) Q E ⟨h,g,d,t,os⟩:=by
 have n:(Value.ref C==Value.ref D)=false:=by rw[ĉ,Bool.or_eq_false_iff]at e;have:=e.1;rw[Ě]at this ⊢;exact this.symm
 obtain⟨m,b⟩:=b;obtain⟨s,u,q,v⟩:=oC;dsimp only at c b;subst c b
 repeat (any_goals (first |assumption|(with_reducible refine ì i ?_;rw[j])|with_reducible refine ì p ?_|with_reducible refine ì k ?_|(with_reducible refine tS O ?_;rw[e])|with_reducible apply XA O i j|wp_step))
def Im(c:h.get? a=some o)(b:o.cls=.ref C)(e:Q (.done (.ret (.bool true))) ⟨h,g,d,t,os⟩):
  wpAny ↑7 A (Builtin.«isinstance.nested» ⟨[.ref a,.ref C,rawInt 0],[]⟩) Q E ⟨h,g,d,t,os⟩:=by
 repeat (any_goals (first |assumption|(with_reducible refine ì c ?_;rw[b])|wp_step))
def Ux(O:tR h C M)(j:h.get? a=some o)(i:o.cls=.ref C)(e:typeOf (.type T)=pure (.type "type"))(c:(Value.ref C::.ref M::qC).contains (.type T)=true)(k:Q (.done (.ret (.bool true))) ⟨h,g,d,t,os⟩):
  wpAny ↑7 A (Builtin.«isinstance.nested» ⟨[.ref a,.type T,rawInt 0],[]⟩) Q E ⟨h,g,d,t,os⟩:=by
 have b:(Value.ref C==Value.type T)=false:=rfl
 repeat (any_goals (first |assumption|(with_reducible refine ì j ?_;rw[i])|(with_reducible refine tS O ?_;rw[c])|wp_step))
end
end L2
namespace L2
namespace M
open PySem PySem.Spec PyProof.Rows
inductive MV where
 |non|bl (b:Bool)|int (i:Int)|str (x:Db)|tup (ds:List MV)|scr (ds:List MV)|loc (l:Nat)|typ (n:String)|obj (c:Str) (ns:C0) (ds:List MV)
abbrev R0:=List MV
abbrev T0:=Option MV
abbrev U0:=List (Int×List MV)
abbrev V0:=List (Nat×List MV)
abbrev X0:=List (MV×MV)
abbrev Y0:=List (List MV)
instance:Inhabited MV:=⟨.non⟩
inductive MO where
 |lst (ds:R0)|dic (kvs:X0)|ins (c:Str) (fs:List (Str×MV))|rcd (c:Str) (fs:List (Str×MV))|fdc (kvs:X0)
abbrev Sto:=List MO
def SqF(K:P0)(H:Hp)(a:Addr)(xs:List V):Prop:=
 (∃o,H a=some (.frz o (.lst xs)))\/
  ∃(o:Obj)(b:B0)(n:Nat),K.lookup a=some o/\o.cls=.type "list"/\o.dict=none/\o.data=.seq b n/\b.size<=sizeLine/\Vals xs b.toList
def SqF.l{K:P0}(h:SqF K H a xs):SqL K H a xs:=by
 rcases h with⟨o,h⟩|h
 .exact .inl (.inr ⟨o,h⟩)
 .exact .inr h
mutual
def Den(K:P0)(α:B9)(H:Hp):MV->V->Prop
 |.non,v=>v=.non
 |.bl b,v=>v=.bl b
 |.int i,v=>v=.int i
 |.str x,v=>v=.str (kX x)
 |.tup ds,v=> ∃a vs,v=.ref a/\SqT K H a vs/\DenL K α H ds vs
 |.scr ds,v=> ∃a vs,v=.ref a/\SqF K H a vs/\DenL K α H ds vs
 |.loc l,v=> ∃a,v=.ref a/\α[l]? =some a
 |.typ n,v=>v=.ty n
 |.obj c ns ds,v=> ∃a C d vs o,v=.ref a/\H a=some (.frz o (.ins C d (ns.zip vs)))/\PySem.W.nsIn K mainGlobals c=some (some (.ref C))/\(PySem.W.clsIn K C).map (·.name)=some c/\ns.length=vs.length/\DenL K α H ds vs
def DenL(K:P0)(α:B9)(H:Hp):List MV->List V->Prop
 |[],vs=>vs=[]
 |d::ds,vs=> ∃v r,vs=v::r/\Den K α H d v/\DenL K α H ds r
end
structure Ex0(α:B9)(H:Hp)(α':B9)(H':Hp):Prop where
 pre: ∃t,α'=α++t
 tup: ∀b xs,H b=some (.tup xs)->H' b=some (.tup xs)
 frz: ∀b o u,H b=some (.frz o u)->H' b=some (.frz o u)
structure Ext(α:B9)(H:Hp)(α':B9)(H':Hp):Prop extends Ex0 α H α' H' where
 new: ∀b∈α',b∈α\/H b=none
 keep: ∀b o,H b=some o->b∉α->H' b=some o
 has: ∀b o,H b=some o-> ∃o',H' b=some o'
section
variable{K:P0}{α α':B9}{H H':Hp}
def Ext.refl(α)(H):Ext α H α H:=⟨⟨⟨[],by simp⟩,λ_ _ h=>h,λ_ _ _ h=>h⟩,λb h=>.inl h,λ_ _ h _=>h,λ_ o h=>⟨o,h⟩⟩
def Ex0.grow(α t)(H):Ex0 α H (α++t) H:=⟨⟨t,rfl⟩,λ_ _ h=>h,λ_ _ _ h=>h⟩
def Ext.free(x:Ext α H α' H')(h:H' b=none):H b=none:=by
 cases e:H b with
 |none=>rfl
 |some o=>obtain⟨a,h'⟩:=x.has b o e;rw[h]at h';cases h'
def Ext.out(x:Ext α H α' H')(h:H b=some o)(n:b∉α):b∉α':=λz=>by
 rcases x.new b z with z|z
 .exact n z
 .rw[h]at z;cases z
def Ext.trans(x:Ext α H α' H')(y:Ext α' H' α'' H''):Ext α H α'' H'' where
 pre:=by obtain⟨t,rfl⟩:=x.pre;obtain⟨u,rfl⟩:=y.pre;exact⟨_,by rw[aA]⟩
 new:=λb h=>(y.new b h).elim (x.new b) λz=>.inr (x.free z)
 keep:=λb o h n=>y.keep b o (x.keep b o h n) (x.out h n)
 has:=λb o h=>let ⟨o',h'⟩:=x.has b o h;y.has b o' h'
 tup:=λb xs h=>y.tup b xs (x.tup b xs h)
 frz:=λb o u h=>y.frz b o u (x.frz b o u h)
def Ex0.at(x:Ex0 α H α' H'){l:Nat}(h:α[l]? =some a):α'[l]? =some a:=by obtain⟨t,rfl⟩:=x.pre;rw[â (gS.mp h).1];exact h
def Ex0.sqT(x:Ex0 α H α' H')(q:SqT K H a vs):SqT K H' a vs:=by
 rcases q with(q|⟨o,q⟩)|q
 .exact .inl (.inl (x.tup a vs q))
 .exact .inl (.inr ⟨o,x.frz a o _ q⟩)
 .exact .inr q
def Ex0.sqF(x:Ex0 α H α' H')(q:SqF K H a vs):SqF K H' a vs:=by
 rcases q with⟨o,q⟩|q
 .exact .inl ⟨o,x.frz a o _ q⟩
 .exact .inr q
mutual
theorem Den.ex0(x:Ex0 α H α' H'): ∀{d:MV}{v:V},Den K α H d v->Den K α' H' d v
 |.non,_,q=>by unfold Den at q ⊢; exact q
 |.bl _,_,q=>by unfold Den at q ⊢; exact q
 |.int _,_,q=>by unfold Den at q ⊢; exact q
 |.str _,_,q=>by unfold Den at q ⊢; exact q
 |.typ _,_,q=>by unfold Den at q ⊢; exact q
 |.obj c ns ds,_,q=>by unfold Den at q ⊢;obtain⟨a,C,u,vs,o,e,h,m,B,z,l⟩:=q;exact⟨a,C,u,vs,o,e,x.frz a _ _ h,m,B,z,DenL.ex0 x l⟩
 |.loc _,_,q=>by unfold Den at q ⊢;obtain⟨a,e,h⟩:=q;exact⟨a,e,x.at h⟩
 |.tup ds,_,q=>by unfold Den at q ⊢;obtain⟨a,vs,e,s,l⟩:=q;exact⟨a,vs,e,x.sqT s,DenL.ex0 x l⟩
 |.scr ds,_,q=>by unfold Den at q ⊢;obtain⟨a,vs,e,s,l⟩:=q;exact⟨a,vs,e,x.sqF s,DenL.ex0 x l⟩
theorem DenL.ex0(x:Ex0 α H α' H'): ∀{ds:R0}{vs:List V},DenL K α H ds vs->DenL K α' H' ds vs
 |[],_,q=>by unfold DenL at q ⊢; exact q
 |d::ds,_,q=>by unfold DenL at q ⊢;obtain⟨v,r,e,a,l⟩:=q;exact⟨v,r,e,Den.ex0 x a,DenL.ex0 x l⟩
end
def Den.ext(x:Ext α H α' H')(q:Den K α H d v):Den K α' H' d v:=q.ex0 x.toEx0
def DenL.ext(x:Ext α H α' H')(q:DenL K α H d v):DenL K α' H' d v:=q.ex0 x.toEx0
theorem pH:Den K α H .non .non:=by unfold Den;rfl
theorem xU(b):Den K α H (.bl b) (.bl b):=by unfold Den;rfl
theorem yU(i):Den K α H (.int i) (.int i):=by unfold Den;rfl
theorem nI(x):Den K α H (.str x) (.str (kX x)):=by unfold Den;rfl
theorem Ds(n):Den K α H (.typ n) (.ty n):=by unfold Den;rfl
def rL(s:SqT K H a vs)(l:DenL K α H ds vs):Den K α H (.tup ds) (.ref a):=by unfold Den;exact Z3 a vs rfl s l
def Dt(s:SqF K H a vs)(l:DenL K α H ds vs):Den K α H (.scr ds) (.ref a):=by unfold Den;exact Z3 a vs rfl s l
def pI(h:α[l]? =some a):Den K α H (.loc l) (.ref a):=by unfold Den;exact⟨a,rfl,h⟩
def mU(d:Den K α H .non v):v=.non:=by unfold Den at d;exact d
def rM(d:Den K α H (.bl b) v):v=.bl b:=by unfold Den at d;exact d
def xI(d:Den K α H (.int i) v):v=.int i:=by unfold Den at d;exact d
def kS(d:Den K α H (.str x) v):v=.str (kX x):=by unfold Den at d;exact d
def Uy(h:H a=some (.frz o (.ins C dx (ns.zip vs))))(b:PySem.W.nsIn K mainGlobals c=some (some (.ref C)))(e:(PySem.W.clsIn K C).map (·.name)=some c)(d:ns.length=↑47)(l:DenL K α H ds vs):Den K α H (.obj c ns ds) (.ref a):=by unfold Den;exact Yt a C dx vs o rfl h b e d l
def iK(d:Den K α H (.obj c ns ds) v): ∃a C m vs o,v=.ref a/\H a=some (.frz o (.ins C m (ns.zip vs)))/\PySem.W.nsIn K mainGlobals c=some (some (.ref C))/\(PySem.W.clsIn K C).map (·.name)=some c/\ns.length=↑47/\DenL K α H ds vs:=by unfold Den at d;exact d
def mV(d:Den K α H (.typ n) v):v=.ty n:=by unfold Den at d;exact d
def wV(d:Den K α H (.tup ds) v): ∃a vs,v=.ref a/\SqT K H a vs/\DenL K α H ds vs:=by unfold Den at d;exact d
def iL(d:Den K α H (.scr ds) v): ∃a vs,v=.ref a/\SqF K H a vs/\DenL K α H ds vs:=by unfold Den at d;exact d
def aY(d:Den K α H (.loc l) v): ∃a,v=.ref a/\α[l]? =some a:=by unfold Den at d;exact d
theorem yN:DenL K α H [] []:=by unfold DenL;rfl
def yD(a:Den K α H d v)(l:DenL K α H ds vs):DenL K α H (d::ds) (v::vs):=by unfold DenL;exact Z3 v vs rfl a l
def DenL.uncons(l:DenL K α H (d::ds) vs): ∃v r,vs=v::r/\Den K α H d v/\DenL K α H ds r:=by unfold DenL at l;exact l
def DenL.isnil(l:DenL K α H [] vs):vs=[]:=by unfold DenL at l;exact l
theorem DenL.length: ∀{ds}{vs},DenL K α H ds vs->↑47=↑12
 |[],_,q=>by rw[q.isnil];rfl
 |d::ds,_,q=>by refine q.uncons.b λv r a _ l=>?_;subst a;rw[lC0,lC0,DenL.length l]
theorem DenL.append: ∀{ds es}{vs m},DenL K α H ds vs->DenL K α H es m->DenL K α H (ds++es) (vs++m)
 |[],_,_,_,q,l=>by rw[q.isnil];exact l
 |d::ds,_,_,_,q,l=>by refine q.uncons.b λv r b a u=>?_;subst b;exact yD a (DenL.append u l)
theorem DenL.drop: ∀{ds}{vs} n ,DenL K α H ds vs->DenL K α H (ds.drop n) (vs.drop n)
 |_,_,0,q=>q
 |[],_,n+1,q=>by rw[q.isnil];exact yN
 |d::ds,_,n+1,q=>by refine q.uncons.b λv r a _ l=>?_;subst a;exact DenL.drop n l
theorem DenL.take: ∀{ds}{vs} n ,DenL K α H ds vs->DenL K α H (ds.take n) (vs.take n)
 |_,_,0,q=>yN
 |[],_,n+1,q=>by rw[q.isnil];exact yN
 |d::ds,_,n+1,q=>by refine q.uncons.b λv r b a l=>?_;subst b;exact yD a (DenL.take n l)
theorem DenL.reverse: ∀{ds}{vs},DenL K α H ds vs->DenL K α H ds.reverse vs.reverse
 |[],_,q=>by rw[q.isnil];exact yN
 |d::ds,_,q=>by refine q.uncons.b λv r b a l=>?_;subst b;rw[reverse_cons,reverse_cons];exact(DenL.reverse l).append (yD a yN)
theorem DenL.set(a:Den K α H d v): ∀{ds}{vs} n ,DenL K α H ds vs->DenL K α H (ds.set n d) (vs.set n v)
 |[],_,_,q=>by rw[q.isnil];exact yN
 |e::ds,_,0,q=>by refine q.uncons.b λu r b m l=>?_;subst b;exact yD a l
 |e::ds,_,n+1,q=>by refine q.uncons.b λu r c m l=>?_;subst c;exact yD m (DenL.set a n l)
theorem DenL.get: ∀{ds}{vs}{i:Nat}{v},DenL K α H ds vs->vs[i]? =some v-> ∃d,ds[i]? =some d/\Den K α H d v
 |[],_,_,_,q,e=>by rw[q.isnil]at e;simp at e
 |d::ds,_,0,_,q,e=>by refine q.uncons.b λv r g a l=>?_;subst g;simp at e;subst e;exact⟨d,rfl,a⟩
 |d::ds,_,i+1,_,q,e=>by refine q.uncons.b λv r j a l=>?_;subst j;refine(DenL.get l (by simpa using e)).a λc b h=>?_;exact⟨c,by simpa using b,h⟩
def DenL.at{i:Nat}(q:DenL K α H ds vs)(e:ds[i]? =some d): ∃v,vs[i]? =some v/\Den K α H d v:=by
 have a:i<vs.length:=by rw[q.length];exact((gS.mp e).1)
 refine(q.get (gE a)).a λh b c=>?_;rw[e]at b;cases b;exact Z8 _ (gE a) c
def DenL.cut(q:DenL K α H ds vs)(lo hi):DenL K α H (iE ds lo hi) (Hx vs lo hi):=by unfold iE Hx;rw[q.length];exact(q.drop _).take _
theorem GT: ∀(ns:Za),DenL K α H ↑22 (ns.map V.int)
 |[]=>yN
 |b::bs=>yD (yU b) (GT bs)
end
structure Gm where
 K:PySem.W.Frag
 mg:Str->Option Ł
 P:ł
 w:World
abbrev _root_.L2.Cx.g(X:Cx):Gm:=⟨X.K,X.mg,X.prog,X.w⟩
inductive DenF(K:P0)(α:B9)(H:Hp):List (Str×MV)->List (Str×V)->Prop
 |nil:DenF K α H [] []
 |cons {x:Str} {d:MV} {v:V} {fs gs}:Den K α H d v->DenF K α H fs gs->DenF K α H ((x,d)::fs) ((x,v)::gs)
def DenF.ex0{K:P0}(x:Ex0 α H α' H'): ∀{fs gs},DenF K α H fs gs->DenF K α' H' fs gs:=λb=>by
 induction b with
 |nil=>exact .nil
 |cons a l ih=>exact .cons (a.ex0 x) (ih)
def KeyD:MV->Key->Prop
 |.int i,k=>k=.inl i
 |.str x,k=>k=.inr (kX x)
 |_,_=>False
inductive DenK(K:P0)(α:B9)(H:Hp):List (MV×MV)->List (Key×V)->Prop
 |nil:DenK K α H [] []
 |cons {k:MV} {k':Key} {d:MV} {v:V} {fs gs}:KeyD k k'->Den K α H d v->DenK K α H fs gs->DenK K α H ((k,d)::fs) ((k',v)::gs)
def DenK.ex0{K:P0}(x:Ex0 α H α' H'): ∀{fs gs},DenK K α H fs gs->DenK K α' H' fs gs:=λb=>by
 induction b with
 |nil=>exact .nil
 |cons k a l ih=>exact .cons k (a.ex0 x) (ih)
mutual
def zBY:MV->Option NK
 |.non=>some (.key none)
 |.int i=>some (.key (some (.inl i)))
 |.str x=>some (.key (some (.inr (kX x))))
 |.tup ds=>(Zo ds).map .tup
 |_=>none
def Zo:List MV->Option (List NK)
 |[]=>some []
 |d::ds=>(zBY d).bind λk=>(Zo ds).map (k::·)
end
inductive DenN(K:P0)(α:B9)(H:Hp):List (MV×MV)->List (NK×Addr×Ł)->Prop
 |nil:DenN K α H [] []
 |cons {k:MV} {nk:NK} {a:Addr} {d:MV} {v:V} {u:Ł} {fs xs}:zBY k=some nk->LC nk<=4->Den K α H k (.ref a)->Den K α H d v->RelV v u->DenN K α H fs xs->DenN K α H ((k,d)::fs) ((nk,a,u)::xs)
def DenN.ex0{K:P0}(x:Ex0 α H α' H'): ∀{fs xs},DenN K α H fs xs->DenN K α' H' fs xs:=λb=>by
 induction b with
 |nil=>exact .nil
 |cons k e a d r l ih=>exact .cons k e (a.ex0 x) (d.ex0 x) r (ih)
def ObD(g:Gm)(α:B9)(H:Hp)(a:Addr):MO->Prop
 |.lst ds=> ∃vs,H a=some (.lst vs)/\DenL g.K α H ds vs
 |.dic kvs=>(∃q,H a=some (.dK q)/\DenK g.K α H kvs q)\/ ∃xs,H a=some (DN g.P g.w a xs)/\DenN g.K α H kvs xs
 |.ins c fs=> ∃C gs,g.mg c=some (.ref C)/\DenF g.K α H fs gs/\
   ∃d,H a=some (.frz d (.ext λh=>h.get? a=some d))/\d.cls=.ref C/\(fs=[]\/ ∃m u,d.dict=some m/\H m=some (.frz u (.xd gs))/\ ∃vs,d.data=.fields vs)
 |.rcd c fs=> ∃C m gs,PySem.W.nsIn g.K mainGlobals c=some (some (.ref C))/\H a=some (.ins C m gs)/\DenF g.K α H fs gs
 |.fdc kvs=> ∃d xs,H a=some (.frz d (DN g.P g.w a xs))/\DenN g.K α H kvs xs
def ObD.there(h:ObD g α H a o): ∃ho,H a=some ho/\(∀xs,ho≠.tup xs)/\ ∀m u,ho=.frz m u-> ∃d,u=.ext d:=by
 cases o with
 |lst ds=>refine h.a λb h _=>?_;exact Z1 _ h (λxs z=>by cases z) (λ_ _ z=>by cases z)
 |dic ds=>
  rcases h with⟨b,h,_⟩|⟨b,h,_⟩
  .exact(Z1 _ h (λxs z=>by cases z) (λ_ _ z=>by cases z))
  .exact(Z1 _ h (λxs z=>by cases z) (λ_ _ z=>by cases z))
 |ins c ds=>
  obtain⟨_,_,_,_,_,h,_⟩:=h;exact Z1 _ h (λxs z=>by cases z) (λ_ _ z=>by cases z;exact⟨_,rfl⟩)
 |rcd c ds=>refine h.l λ_ _ _ e=>e.e λ_ h _=>?_;exact Z1 _ h (λxs z=>by cases z) (λ_ _ z=>by cases z)
 |fdc kvs=>refine h.d λ_ _ h _=>?_;exact Z1 _ h (λxs z=>by cases z) (λ_ _ z=>by cases z;exact⟨_,rfl⟩)
def ObD.move(h:ObD g α H a o)(x:Ex0 α H α' H')(e:H' a=H a):ObD g α' H' a o:=by
 cases o with
 |lst ds=>refine h.a λb h l=>?_;exact Z8 b (e.trans h) (l.ex0 x)
 |dic ds=>
  rcases h with⟨b,h,l⟩|⟨b,h,l⟩
  .exact .inl ⟨b,e.trans h,l.ex0 x⟩
  .exact .inr ⟨b,e.trans h,l.ex0 x⟩
 |ins c ds=>
  obtain⟨C,i,m,l,j,h,r,q⟩:=h;exact⟨C,i,m,l.ex0 x,j,e.trans h,r,q.imp id λ⟨d,k,n,s,p⟩=>(Z3 d k n (x.frz _ _ _ s) p)⟩
 |rcd c ds=>refine h.l λC d i u=>u.e λm h l=>?_;exact Y3 C d i m (e.trans h) (l.ex0 x)
 |fdc kvs=>refine h.d λj xs h l=>?_;exact Z0 j xs (e.trans h) (l.ex0 x)
structure Wd(g:Gm)(α:B9)(S:Sto)(H:Hp):Prop where
 len:α.length=↑0
 nd:α.Nodup
 obj: ∀(l:Nat)(a:Addr)(o:MO),α[l]? =some a->S[l]? =some o->ObD g α H a o
section
variable{H:Hp}
def Wd.of(w:Wd g α S H){l:Nat}(h:α[l]? =some a): ∃o,S[l]? =some o/\ObD g α H a o:=by
 have b:l<S.length:=by rw[<-w.len];exact(gS.mp h).1
 exact Z8 (S[l]) (gE b) (w.obj l a _ h (gE b))
def Wd.mem(w:Wd g α S H)(h:a∈α): ∃ho,H a=some ho/\(∀xs,ho≠.tup xs)/\ ∀m u,ho=.frz m u-> ∃d,u=.ext d:=by obtain⟨l,b⟩:=getElem?_of_mem h;refine(w.of b).a λo _ q=>?_;exact q.there
def Wd.newx(w:Wd g α S H)(hp:H p=none):Ext α H α (yQ H p o) where
 pre:=⟨[],by simp⟩
 new:=λb h=>.inl h
 keep:=λb o h _=>by rw[zH (zT h hp)];exact h
 has:=λb o h=>⟨o,by rw[zH (zT h hp)];exact h⟩
 tup:=λb o h=>by rw[zH (zT h hp)];exact h
 frz:=λb o u h=>by rw[zH (zT h hp)];exact h
def Wd.fresh(w:Wd g α S H)(a:H p=none):p∉α:=λz=>by refine(w.mem z).a λ_ h _=>?_;rw[a]at h;cases h
def Wd.new(w:Wd g α S H)(b:H p=none):Wd g α S (yQ H p o):=
 ⟨w.len,w.nd,λl a e c d=>(w.obj l a e c d).move (w.newx b).toEx0 (zH λz=>w.fresh b (by rw[<-z];exact î c))⟩
def Zp(h:H a=some ho)(n: ∀d u,ho≠.frz d u:=by intro _ _ z;cases z): ∀d u,H a≠some (.frz d u):=λd u z=>n d u (å (h.symm.trans z))
def Wd.writex(w:Wd g α S H){l:Nat}(h:α[l]? =some a)(nf: ∀ob u,H a≠some (.frz ob u)):Ext α H α (yQ H a o) where
 pre:=⟨[],by simp⟩
 new:=λb h=>.inl h
 keep:=λb o e n=>by rw[zH λz=>n (by rw[z];exact î h)];exact e
 has:=λb o e=>by
  by_cases z:b=a
  .subst z;exact⟨_,zI⟩
  .exact⟨o,by rw[zH z];exact e⟩
 tup:=λb xs e=>by refine(w.mem (î h)).c λho h1 h2 _=>?_;rw[zH λz=>h2 xs (by subst z;rw[e]at h1;exact(å h1).symm)];exact e
 frz:=λb ob u e=>by rw[zH λz=>nf ob u (by rw[<-z];exact e)];exact e
def Wd.ne(w:Wd g α S H){l:Nat}(h:α[l]? =some a)(h':α[m]? =some b)(n:l≠m):a≠b:=by rintro rfl;obtain⟨e,d⟩:=gS.mp h;obtain⟨i,c⟩:=gS.mp h';exact n ((getElem_inj w.nd).mp (d.trans c.symm))
def Wd.write(w:Wd g α S H)(h:α[l]? =some a)(nf: ∀ob u,H a≠some (.frz ob u))(q:ObD g α (yQ H a o) a ob):Wd g α (S.set l ob) (yQ H a o) where
 len:=by rw[ą];exact w.len
 nd:=w.nd
 obj:=λm b ob' h1 h2=>by
  by_cases e:l=m
  .subst e;rw[h]at h1;rw[č (by rw[<-w.len];exact(gS.mp h).1)]at h2;rw[<-å h1, <-å h2];exact q
  .rw[Ĉ e]at h2;exact(w.obj m b ob' h1 h2).move (w.writex h nf).toEx0 (zH (w.ne h1 h λz=>e z.symm))
def Wd.enterx(w:Wd g α S H)(x:Ext α0 H0 α H)(h0:H0 b=none)(n:b∉α):Ext α0 H0 (α++[b]) H where
 pre:=let ⟨t,e⟩:=x.pre;⟨_,by rw[e,aA]⟩
 new:=λc hc=>(á.mp hc).elim (x.new c) λz=>.inr (by rw[mS.mp z];exact h0)
 keep:=x.keep
 has:=x.has
 tup:=x.tup
 frz:=x.frz
theorem Wd.enter(w:Wd g α S H)(h:H b=some (.lst vs))(n:b∉α)(l:DenL g.K α H ds vs):Wd g (α++[b]) (S++[.lst ds]) H where
 len:=by rw[lA,lA,w.len];rfl
 nd:=į.mpr ⟨w.nd,by simp,λa ha c hc=>by rw[mS.mp hc];rintro rfl;exact n ha⟩
 obj:=λm a o h1 h2=>by
  by_cases hm:m<α.length
  .rw[â hm]at h1;rw[â (by rw[<-w.len];exact hm)]at h2;exact(w.obj m a o h1 h2).move (Ex0.grow α [b] H) rfl
  .have hm':m=α.length:=by
    have:=(gS.mp h1).1;rw[lA,lS]at this
    lia
   subst hm';rw[è (à _),sub_self]at h1;rw[è (by rw[w.len];exact à _),w.len,sub_self]at h2;cases h1;cases h2;exact Z8 vs h (l.ex0 (Ex0.grow α [b] H))
end
inductive R(β:Type) where
 |ok (b:β) (S:Sto)|exc (c:Str) (fs:List (Str×MV)) (S:Sto)|no
def R.bind:R β->(β->Sto->R γ)->R γ
 |.ok b S,k=>k b S
 |.exc c fs S,_=>.exc c fs S
 |.no,_=>.no
theorem R.bind_ok(b)(S)(k:β->Sto->R γ):(R.ok b S).bind k=k b S:=rfl
inductive Er where
 |val (d:MV)|new (ds:R0)
instance:Inhabited Er:=⟨.val .non⟩
def DenX(K:P0)(α:B9)(H:Hp):Er->V->Prop
 |.val d,v=>Den K α H d v
 |.new ds,v=> ∃b vs,v=.ref b/\H b=some (.lst vs)/\b∉α/\DenL K α H ds vs
def DenE(K:P0)(H:Hp)(α':B9)(H':Hp)(r:Er)(v:V):Prop:=DenX K α' H' r v/\match r with |.new _=> ∀a,v=.ref a->H a=none|_=>True
section
variable{K:P0}
def DenX.ext(x:Ext α H α' H'): ∀{r}{v},DenX K α H r v->DenX K α' H' r v
 |.val d,_,q=>Den.ext x q
 |.new ds,_,⟨b,vs,e,h,n,l⟩=>(ZB b vs e (x.keep b _ h n) (x.out h n) (l.ext x))
def DenE.val(q:Den K α' H' d v):DenE K H α' H' (.val d) v:=⟨q,trivial⟩
def DenE.back(c: ∀b,H b=none->H0 b=none)(q:DenE K H α' H' r v):DenE K H0 α' H' r v:=by
 refine⟨q.1,?_⟩
 cases r with
 |new ds=>exact λa e=>c a (q.2 a e)
 |_=>trivial
def DenE.ext(x:Ext α' H' α'' H'')(q:DenE K H α' H' r v):DenE K H α'' H'' r v:=⟨q.1.ext x,q.2⟩
end
section
variable{K:P0}
def uN(d:DenX K α H (.val .non) v):v=.non:=mU (K:=K) (α:=α) (H:=H) d
def vR(d:DenX K α H (.val (.bl b)) v):v=.bl b:=rM (K:=K) (α:=α) (H:=H) d
def yV(d:DenX K α H (.val (.int b)) v):v=.int b:=xI (K:=K) (α:=α) (H:=H) d
def bP(d:DenX K α H (.val (.str b)) v):v=.str (kX b):=kS (K:=K) (α:=α) (H:=H) d
def Mn(d:DenX K α H (.val (.typ b)) v):v=.ty b:=mV (K:=K) (α:=α) (H:=H) d
def mW(d:DenX K α H (.val (.tup ds)) v): ∃a vs,v=.ref a/\SqT K H a vs/\DenL K α H ds vs:=wV d
def LI(d:DenX K α H (.val (.scr ds)) v): ∃a vs,v=.ref a/\SqF K H a vs/\DenL K α H ds vs:=iL d
def aG(d:DenX K α H (.val (.loc l)) v): ∃a,v=.ref a/\α[l]? =some a:=aY (K:=K) (H:=H) d
end
noncomputable def IL:List Er->List V->List Addr
 |.new _::rs,.ref b::vs=>b::IL rs vs
 |_::rs,_::vs=>IL rs vs
 |_,_=>[]
inductive ArgsE(K:P0)(H:Hp)(α':B9)(H':Hp):List Er->List V->Prop
 |nil:ArgsE K H α' H' [] []
 |cons {r v rs vs}:DenE K H α' H' r v->(∀ds b,r=.new ds->v=.ref b->b∉IL rs vs)->ArgsE K H α' H' rs vs->ArgsE K H α' H' (r::rs) (v::vs)
theorem ArgsE.nones{K:P0}: ∀{rs vs},ArgsE K H α' H' rs vs-> ∀b∈IL rs vs,H b=none
 |_,_,.nil=>λb h=>by simp[IL]at h
 |.val d::_,v::_,.cons a n l=>λb h=>ArgsE.nones l b (by simpa [IL]using h)
 |.new ds::_,v::_,.cons a n l=>λb h=>by
  refine a.1.d λc vs e _=>?_;subst e;rcases mC.mp h with rfl|h
  .exact a.2 _ rfl
  .exact ArgsE.nones l b h
def ArgsE.ext{K:P0}(x:Ext α' H' α'' H''): ∀{rs vs},ArgsE K H α' H' rs vs->ArgsE K H α'' H'' rs vs:=λb=>by
 induction b with
 |nil=>exact .nil
 |cons a n l ih=>exact .cons (a.ext x) n (ih)
def ArgsE.back{K:P0}(c: ∀b,H b=none->H0 b=none): ∀{rs vs},ArgsE K H α' H' rs vs->ArgsE K H0 α' H' rs vs:=λd=>by
 induction d with
 |nil=>exact .nil
 |cons a n l ih=>exact .cons (a.back c) n (ih)
def ArgsE.length{K:P0}: ∀{rs vs},ArgsE K H α' H' rs vs->↑47=rs.length:=λa=>by
 induction a with
 |nil=>exact rfl
 |cons _ _ l ih=>exact by rw[lC0,lC0,ih]
class Dn (β:Type) (τ:outParam Type) where
 d:Gm->Hp->List Addr->Sto->Hp->β->τ->Prop
 back: ∀{g:Gm}{H H0:Hp}{α':B9}{S':Sto}{H':Hp}{b:β}{u:τ},(∀b,H b=none->H0 b=none)->d g H α' S' H' b u->d g H0 α' S' H' b u
instance:Dn Er V:=⟨λg H α' _ H' r v=>DenE g.K H α' H' r v,λa q=>q.back a⟩
instance:Dn Bool Bool:=⟨λ_ _ _ _ _ b u=>u=b,λ_ q=>q⟩
instance:Dn (List Er) (List V):=⟨λg H α' _ H' r v=>ArgsE g.K H α' H' r v,λa q=>q.back a⟩
instance:Dn (Option Int) (Option Int):=⟨λ_ _ _ _ _ b u=>u=b,λ_ q=>q⟩
abbrev XW:=Str->List (Str×MV)->Sto->List Addr->Hp->Prop
abbrev W0:XW:=λ_ _ _ _ _=>False
def Post[Dn β τ](g:Gm)(W:XW)(α:B9)(H:Hp):R β->(τ->Hp->Prop)->Prop
 |.ok b S,Q=> ∀u α' H',Ext α H α' H'->Wd g α' S H'->Dn.d g H α' S H' b u->Q u H'
 |.exc c fs S,_=> ∀α' H',Ext α H α' H'->Wd g α' S H'->W c fs S α' H'
 |.no,_=>False
section
variable[Dn β τ][Dn γ υ]
def Post.shift(x:Ext α H α' H'): ∀{m:R β}{Q},Post g W α H m Q->Post g W α' H' m Q
 |.ok b S,Q,q=>λu d v B z D=>q u d v (x.trans B) z (Dn.back (λb h=>x.free h) D)
 |.exc c fs S,_,q=>λd v B z=>q d v (x.trans B) z
 |.no,_,q=>q
def Post.bind{k:β->Sto->R γ}(q:Post g W α H (m.bind k) Q)
  (f: ∀u b S1 v z,m=.ok b S1->Ext α H v z->Wd g v S1 z->Dn.d g H v S1 z b u->Post g W α H (k b S1) Q->Q' u z):Post g W α H m Q':=by
 cases m with
 |ok b S=>exact λu v z x w d=>f u b S v z rfl x w d q
 |exc c fs S=>exact q
 |no=>exact q
def Post.here{b:β}(q:Post g W α H (.ok b S) Q)(w:Wd g α S H)(d:Dn.d g H α S H b u):Q u H:=q u α H (Ext.refl α H) w d
end
def Post.val(q:Post g W α H (.ok (Er.val d) S) Q)(w:Wd g α S H)(k:Den g.K α H d v):Q v H:=q.here w (DenE.val k)
def Post.newl(q:Post g W α H (.ok (Er.new ds) S) Q)(w:Wd g α S H)(b:H p=none)(l:DenL g.K α H ds vs):Q (.ref p) (yQ H p (.lst vs)):=
 q _ α _ (w.newx b) (w.new b) ⟨(ZB p vs rfl zI (w.fresh b) (l.ext (w.newx b))),λa e=>by cases e;exact b⟩
def Post.newt(q:Post g W α H (.ok (Er.val (.tup ds)) S) Q)(w:Wd g α S H)(a:H p=none)(l:DenL g.K α H ds vs):Q (.ref p) (yQ H p (.tup vs)):=
 q _ α _ (w.newx a) (w.new a) (.val (rL (.of zI) (l.ext (w.newx a))))
abbrev Rho:=List (Option MV)
structure Slots(K:P0)(α:B9)(H:Hp)(ρ:Rho)(σ:St):Prop where
 len:σ.length=ρ.length
 slot: ∀(i:Nat)(d:MV),ρ[i]? =some (some d)-> ∃v,σ[i]? =some (some v)/\Den K α H d v
section
variable{K:P0}
def Slots.ex0(q:Slots K α H ρ σ)(x:Ex0 α H α' H'):Slots K α' H' ρ σ:=⟨q.len,λi d e=>let ⟨v,a,b⟩:=q.slot i d e;(Z8 v a (b.ex0 x))⟩
def Slots.ext(q:Slots K α H ρ σ)(x:Ext α H α' H'):Slots K α' H' ρ σ:=q.ex0 x.toEx0
theorem Du{α:Type}{l:List α}{x y:α}(h:(l.set i x)[j]? =some y):(j=i/\y=x/\i<l.length)\/(j≠i/\l[j]? =some y):=by
 by_cases a:i=j
 .subst a;by_cases b:i<l.length
  .rw[č b]at h;exact .inl ⟨rfl,(å h).symm,b⟩
  .rw[getElem?_eq_none (by rw[ą];lia)]at h;cases h
 .rw[Ĉ a]at h;exact .inr ⟨λz=>a z.symm,h⟩
def Slots.set(q:Slots K α H ρ σ)(h:Den K α H d v):Slots K α H (ρ.set i (some d)) (σ.set i (some v)):=by
 refine⟨by rw[ą,ą];exact q.len,λj e z=>?_⟩;rcases Du z with⟨rfl,e',hl⟩|⟨hj,e'⟩
 .cases e';exact⟨v,by rw[č (by rw[q.len];exact hl)],h⟩
 .refine(q.slot j e e').a λu a b=>?_;exact⟨u,by rw[Ĉ (Ne.symm hj)];exact a,b⟩
end
def Jd(X:Cx)(W:XW)[Dn β τ](P:(St->Hp->(τ->Hp->Prop)->Prop)->Prop)(f:Rho->Sto->R β):Prop:=
 ∃t,P t/\ ∀α a S σ H Q,Wd X.g α S H->Slots X.K α H a σ->Post X.g W α H (f a S) Q->t σ H Q
abbrev zR(X:Cx)(W:XW)(e:Expr)(f:Rho->Sto->R Er):Prop:=Jd X W (PE X e) f
abbrev AR(X:Cx)(W:XW)(e:Expr)(f:Rho->Sto->R Bool):Prop:=Jd X W (PT X e) f
abbrev Zq(X:Cx)(W:XW)(e:Expr)(f:Rho->Sto->R Bool):Prop:=Jd X W (PW X e) f
abbrev IM(X:Cx)(W:XW)(es:O0)(f:↑43):Prop:=Jd X W (PA X es) f
abbrev O4(X:Cx)(W:XW)(e:Option Expr)(f:Rho->Sto->R (Option Int)):Prop:=Jd X W (PO X e) f
section
variable{X:Cx}{W:XW}{b c:Expr}{f g h:Rho->Sto->R Er}{pos:Pos}
noncomputable def Uz:Option (Option MV)->Sto->R Er
 |some (some d),S=>.ok (.val d) S
 |_,_=>.no
def zB(i:Nat)(a:X.N[i]? =some x:=by rfl)(e:La ↑23 x:=by first |exact Or.inl rfl|exact Or.inr (Or.inl rfl)|exact Or.inr (Or.inr rfl))(hd:↑35=false:=by decide)
  (hcd:(x==("__classdict__"))=false:=by decide):zR X W (.Name x pos) (λρ S=>Uz (ρ[i]?) S):=by
 refine Z8 _ (uL a e hd hcd) (λα ρ S σ H Q c sl q=>?_);dsimp only at q
 cases z:ρ[i]? with
 |none=>rw[z]at q;exact q.elim
 |some o=>
  cases o with
  |none=>rw[z]at q;exact q.elim
  |some d=>
   rw[z]at q;refine(sl.slot i d z).a λv b h=>?_;exact Z8 v b (Post.val q c h)
def zS:zR X W (.Constant (.int i) j pos) (λ_ S=>.ok (.val (.int i)) S):=(Z8 _ Lk (λα b S σ H Q a sl q=>Post.val q a (yU i)))
def mQ:zR X W (.Constant (.bool i) j pos) (λ_ S=>.ok (.val (.bl i)) S):=(Z8 _ zAS (λα b S σ H Q a sl q=>Post.val q a (xU i)))
def GU:zR X W (.Constant .none j pos) (λ_ S=>.ok (.val .non) S):=(Z8 _ (λ_ _ _ H _ I h=>Constant_none (Z3 .non H I rfl h)) (λα b S σ H Q a sl q=>Post.val q a pH))
def uO(cs)(a:x=kX cs:=by rfl):zR X W (.Constant (.str x) j pos) (λ_ S=>.ok (.val (.str cs)) S):=
 (Z8 _ Aj (λα c S σ H Q b sl q=>Post.val q b (by rw[a];exact nI cs)))
def IO(e:Gl X x)(c:X.mg x=none)(d:bootBuiltins x=some (.type T))(a:x≠"__name__":=by decide)(hd:↑35=false:=by decide):zR X W (.Name x pos) (λ_ S=>.ok (.val (.typ T)) S):=
 (Z8 _ (Dk (v:=.ty T) e c d rfl a hd) (λα h S σ H Q b sl q=>Post.val q b (Ds T)))
def Mp:zR X W (.UnaryOp .USub (.Constant (.int i) j p3) pos) (λ_ S=>.ok (.val (.int (-i))) S):=
 (Z8 _ (zBF (unI λ_ _ _ _ _ q=>neg_int q) Lk) (λα b S σ H Q a sl q=>(Z8 i rfl (Post.val q a (yU (-i))))))
def QN(X:Cx)(W:XW)(r:R2)(F:Er->Er->Sto->R Er):Prop:= ∀p q x y α S H Q,Wd X.g α S H->DenX X.K α H p x->DenX X.K α H q y->Post X.g W α H (F p q S) Q->r x y H Q
def two(n:QN X W r F){e tb:TE}(w: ∀α ρ S σ H Q,Wd X.g α S H->Slots X.K α H ρ σ->Post X.g W α H (f ρ S) Q->e σ H Q)
  (fb: ∀α ρ S σ H Q,Wd X.g α S H->Slots X.K α H ρ σ->Post X.g W α H (g ρ S) Q->tb σ H Q)       (wd:↑31) (sl:Slots X.K α H ρ σ)
  (q:Post X.g W α H ((f ρ S).bind λp S1=>(g ρ S1).bind λq v=>F p q v) Q):e σ H λx d=>tb σ d λy m=>r x y m Q:=
 w α ρ S σ H _ wd sl (q.bind λu p S1 b d B c i j A=>fb b ρ S1 σ d _ i (sl.ext c) ((A.shift c).bind λk p2 v a m C h z s o=>
  n p p2 u k a v m Q z (j.1.ext h) s.1 (o.shift h)))
def QO(ho:OpR X (binaryOp op) r)(n:QN X W r F)(d:zR X W a f)(c:zR X W b g):zR X W (.BinOp a op b pos) (λρ S=>(f ρ S).bind λp S1=>(g ρ S1).bind λq z=>F p q z):=by refine d.a λB d o=>?_;refine c.a λC c j=>?_;exact Z8 _ (by intro pins s σ H Q I h;exact wpAny_BinOp (L4 d c I h λv u w x y e m A i q=>ho pins w σ e x y v u Q m A i q)) (λα ρ S σ H Q k sl q=>two n o j k sl q)
def LK(ho:OpR X (compareOp op) r)(n:QN X W r F)(d:zR X W a f)(c:zR X W b g)(w:behindInMarks op b=false:=by first |exact Lu _|with_unfolding_all rfl):
  zR X W (.Compare a [op] [b] pos) (λρ S=>(f ρ S).bind λp S1=>(g ρ S1).bind λq z=>F p q z):=by
 refine d.a λC d o=>?_;refine c.a λD c j=>?_;exact Z8 _ (by intro pins s σ H Q I h;exact wpAny_Compare1 (L4 d c I h λv u A x y e m B i q=>ho pins A σ e x y v u Q m B i q) w) (λα ρ S σ H Q k sl q=>two n o j k sl q)
def zBZ(ho:IxR X r)(o:QN X W r F)(d:zR X W a f)(c:zR X W b g)(hs:SR b:=by exact λ_ _=>rfl):
  zR X W (.Subscript a b pos) (λρ S=>(f ρ S).bind λp S1=>(g ρ S1).bind λq m=>F p q m):=by
 refine d.a λB d A=>?_;refine c.a λC c i=>?_;exact Z8 _ (by intro pins s σ H Q I h;exact Subscript_ (L4 d c I h λv u w x y e n z j q=>ho a b pins w σ e x y v u Q n z j q (hs _ _))) (λα ρ S σ H Q k sl q=>two o A i k sl q)
noncomputable def bN:Er->Sto->R Bool
 |.val (.bl b),S=>.ok b S
 |_,_=>.no
def XC(q:Post X.g W α H (bN p S) Q): ∃k,p=.val (.bl k)/\Post X.g W α H (.ok k S) Q:=by
 unfold bN at q;split at q
 .exact⟨_,rfl,q⟩
 .exact q.elim
def FF[Dn β τ]{k:Bool->Sto->R β}(q:Post X.g W α H ((bN p S).bind k) Q): ∃c,p=.val (.bl c)/\Post X.g W α H (k c S) Q:=by
 unfold bN at q;split at q
 .exact⟨_,rfl,q⟩
 .exact q.elim
def sR(ho:OpR X (compareOp op) r)(T:QN X W r F)(m:zR X W a f)(d:zR X W b g)(Y:behindInMarks op b=false:=by first |exact Lu _|with_unfolding_all rfl):
  AR X W (.Compare a [op] [b] pos) (λρ S=>((f ρ S).bind λp S1=>(g ρ S1).bind λq N=>F p q N).bind bN):=by
 refine m.a λD m fa=>?_;refine d.a λU d E=>?_;refine(Z8 _ (show PT X (.Compare a [op] [b] pos) (Zl (zEF r D U)) by
   intro pins s σ H Q I h
   refine wpAny_isTrue_Compare1 (wU (m pins s σ H _ I h) λv s1 ⟨x,n,I1,M,j⟩=>wU (d pins s1 σ n _ I1 j) λu Z ⟨y,w,P,o,i⟩=>
    wU (ho pins Z σ w x y v u _ P M o i) λc s3 ⟨z,K,J,L,k,e,q3⟩=>?_) Y
   subst e;cases L;exact ý (Z8 K J q3)) (λα ρ S σ H Q O sl q=>?_));refine two T fa E O sl (q.bind λu p S1 G n e1 A B C j=>?_);refine(XC (j.shift A)).a λk R i=>?_;subst R;exact⟨k,vR C.1,i.here B rfl⟩
def zAH(F G:Er->Er->Sto->R Er)(p q:Er)(S:Sto)(k:Sto->R Er):R Er:=(F p q S).bind λz b=>(bN z b).bind λc a=>if c=true then(k a).bind λr d=>G q r d else .ok (.val (.bl false)) a
def chain(U:QN X W r F)(T:QN X W r' G)(fa: ∀α ρ S σ H Q,Wd X.g α S H->Slots X.K α H ρ σ->Post X.g W α H (f ρ S) Q->ta σ H Q)
  (fb: ∀α ρ S σ H Q,Wd X.g α S H->Slots X.K α H ρ σ->Post X.g W α H (g ρ S) Q->tb σ H Q) (fc: ∀α ρ S σ H Q,Wd X.g α S H->Slots X.K α H ρ σ->Post X.g W α H (h ρ S) Q->tc σ H Q)       (wd:↑31) (sl:Slots X.K α H ρ σ)
  (q:Post X.g W α H ((f ρ S).bind λp S1=>(g ρ S1).bind λq v=>zAH F G p q v λm=>h ρ m) Q):Lv r r' ta tb tc σ H Q:=
 fa α ρ S σ H _ wd sl (q.bind λu p S1 c H1 e1 n z B O=>fb c ρ S1 σ H1 _ z (sl.ext n) ((O.shift n).bind λs p2 v b A e2 i N w L=>by
  refine U p p2 u s b v A _ N (B.1.ext i) w.1 (Post.bind (L.shift i) λu3 p3 m e J e3 d y Z E=>?_);refine(FF (E.shift d)).a λk R a=>?_;subst R;refine Z8 k (vR Z.1) ?_
  cases k with
  |true=>
   rw[iP rfl]at a ⊢;exact fc e ρ m σ J _ y (((sl.ext n).ext i).ext d) (a.bind λP M Y j H5 e5 o C D I=>T p2 M s P j Y H5 Q C ((w.1.ext d).ext o) D.1 (I.shift o))
  |false=>
   rw[iN0 xF0]at a ⊢;exact Post.val a y (xU false)))
noncomputable def aZ:Er->Sto->R Bool
 |.val .non,S=>.ok false S
 |.val (.bl b),S=>.ok b S
 |.val (.int i),S=>.ok (i !=0) S
 |.val (.str x),S=>if x.length<=sizeLine then .ok (!x.isEmpty) S else .no
 |.val (.tup ds),S=>.ok (!ds.isEmpty) S
 |.val (.scr ds),S=>.ok (!ds.isEmpty) S
 |.val (.loc l),S=>match S[l]? with
  |some (.lst ds)=>.ok (!ds.isEmpty) S
  |_=>.no
 |.val (.typ _),_=>.no
 |.val (.obj _ _ _),_=>.no
 |.new ds,S=>.ok (!ds.isEmpty) S
def CU{K:P0}(l:DenL K α H ds vs):(!vs.isEmpty)= !ds.isEmpty:=by have:=l.length;cases ds<;>cases vs<;>simp_all
theorem Mr(j:↑31)(d:DenX X.K α H p x)(q:Post X.g W α H (aZ p S) Q): ∃k,M1 X.K x H k/\Q k H:=by
 match p,d,q with
 |.val .non,d,q=>cases uN d;exact⟨_,rfl,q.here j rfl⟩
 |.val (.bl b),d,q=>cases vR d;exact Z8 _ rfl (q.here j rfl)
 |.val (.int i),d,q=>cases yV d;exact Z8 _ rfl (q.here j rfl)
 |.val (.typ n),d,q=>exact q.elim
 |.val (.obj _ _ _),d,q=>exact q.elim
 |.val (.str z),d,q=>
  cases bP d;have e:Post X.g W α H (if z.length<=sizeLine then R.ok _ S else R.no) Q:=q;split at e
  .rename_i w;refine⟨_,⟨by rw[jV];exact w,?_⟩,e.here j rfl⟩;rw[jV]
   cases z with
   |nil=>rfl
   |cons c r=>
    have u:((r.length:Int)+1)≠0:=by lia
    simp[u]
  .exact e.elim
 |.val (.tup ds),d,q=>
  obtain⟨a,m,rfl,s,l⟩:=mW d;exact⟨_,.inr (.inl ⟨m,s,(CU l).symm⟩),q.here j rfl⟩
 |.val (.scr ds),d,q=>
  obtain⟨a,m,rfl,s,l⟩:=LI d;exact⟨_,.inl ⟨m,s.l,(CU l).symm⟩,q.here j rfl⟩
 |.val (.loc n),d,q=>
  obtain⟨a,rfl,h⟩:=aG d;refine(j.of h).a λo v A=>?_;have e:Post X.g W α H (match S[n]? with |some (.lst ds)=>R.ok _ S|_=>R.no) Q:=q;rw[v]at e
  cases o with
  |lst ds=>
   refine A.a λm y l=>?_;exact Z8 _ (.inl ⟨m,.of y,(CU l).symm⟩) (e.here j rfl)
  |dic ds=>exact e.elim
  |ins c fs=>exact e.elim
  |rcd c fs=>exact e.elim
  |fdc _=>exact e.elim
 |.new ds,⟨a,m,ex,s,n,l⟩,q=>subst ex;exact Z8 _ (.inl ⟨m,.of s,(CU l).symm⟩) (q.here j rfl)
def wG(c:zR X W a f)(i: ∀d,isTrue a X.env d=(do let v <-d;standAt a.pos;holding [v] (truthy v)):=by intro _;rfl):AR X W a (λρ S=>(f ρ S).bind aZ):=by refine c.a λy c r=>?_;exact(Z8 _ (by
  intro pins s σ H Q I h;exact isTrue_plain (wU (c pins s σ H _ I h) λv s1 ⟨x,e,I1,n,b⟩=>M2 pins s1 σ e x v Q I1 n b) (i _)) (λα ρ S σ H Q o sl q=>r α ρ S σ H _ o sl (q.bind λu p A m e z w j k b=>Mr j k.1 (b.shift w))))
end
section
variable{c:Expr}{h:Rho->Sto->R Er}
def O5(p:Er)(S:Sto)(k:Sto->R Er):R Er:=(bN p S).bind λc a=>if c=true then k a else .ok (.val (.bl false)) a
def orF(p:Er)(S:Sto)(k:Sto->R Er):R Er:=(bN p S).bind λc a=>if c=true then .ok (.val (.bl true)) a else k a
def O6(b:zR X W a f):zR X W (.BoolOp op [a] pos) f:=let ⟨t,h,k⟩:=b;(Z8 t (λpins s σ H Q I hw=>BoolOp_one (h pins s σ H Q I hw)) k)
def O7(h:zR X W a f)(d:zR X W (.BoolOp .And (b::es) pos) g):zR X W (.BoolOp .And (a::b::es) pos) (λρ S=>(f ρ S).bind λp S1=>O5 p S1 λv=>g ρ v):=by
 refine h.a λy h r=>?_;refine d.a λz d n=>?_;refine Z8 _ (F8 h d) (λα ρ S σ H Q o sl q=>r α ρ S σ H _ o sl (q.bind λu p S1 e w A j i m s=>?_));refine(FF (s.shift j)).a λk B c=>?_;subst B;refine Z8 k (vR m.1) ?_
 cases k with
 |true=>rw[iP rfl]at c ⊢; exact n e ρ S1 σ w _ i (sl.ext j) c
 |false=>rw[iN0 xF0]at c ⊢; exact Post.val c i (xU false)
def zCA(h:zR X W a f)(d:zR X W (.BoolOp .Or (b::es) pos) g):zR X W (.BoolOp .Or (a::b::es) pos) (λρ S=>(f ρ S).bind λp S1=>orF p S1 λv=>g ρ v):=by
 refine h.a λy h r=>?_;refine d.a λz d n=>?_;refine Z8 _ (zAW h d) (λα ρ S σ H Q o sl q=>r α ρ S σ H _ o sl (q.bind λu p S1 e w A j i m s=>?_));refine(FF (s.shift j)).a λk B c=>?_;subst B;refine Z8 k (vR m.1) ?_
 cases k with
 |true=>rw[iP rfl]at c ⊢; exact Post.val c i (xU true)
 |false=>rw[iN0 xF0]at c ⊢; exact n e ρ S1 σ w _ i (sl.ext j) c
def O8(d:zR X W a f):zR X W (.UnaryOp .Not a pos) (λρ S=>(f ρ S).bind λp S1=>(bN p S1).bind λk z=>.ok (.val (.bl !k)) z):=by refine d.a λm d A=>?_;refine Z8 _ (show PE X (.UnaryOp .Not a pos) (zAV m) by intro pins s σ H Q I h;refine UnaryOp_ (wU (d pins s σ H _ I h) λv s1 ⟨x,e,I1,r,b⟩=>?_);obtain⟨c,rfl,b⟩:=b;cases r;exact not_of (ý (Z3 (.bl (!c)) e I1 rfl b))) (λα ρ S σ H Q w sl q=>A α ρ S σ H _ w sl (q.bind λu p S1 n e B y i j b=>?_));refine(FF (b.shift y)).a λk g o=>?_;subst g;exact⟨k,vR j.1,Post.val o i (xU _)⟩
def zCB(j:AR X W c tf)(m:zR X W a f)(i:zR X W b g):zR X W (.IfExp c a b pos) (λρ S=>(tf ρ S).bind λk S1=>if k=true then f ρ S1 else g ρ S1):=by
 refine j.a λA j w=>?_;refine m.a λz m y=>?_;refine i.a λB i s=>?_;refine Z8 _ (Ll j m i) (λα ρ S σ H Q v sl q=>w α ρ S σ H _ v sl (q.bind λu p S1 d o C e n r h=>?_));cases r
 cases u with
 |true=>rw[iP rfl]at h ⊢; exact y d ρ S1 σ o _ n (sl.ext e) (h.shift e)
 |false=>rw[iN0 xF0]at h ⊢; exact s d ρ S1 σ o _ n (sl.ext e) (h.shift e)
def Va(b:AR X W a tf):Zq X W (.BoolOp .And [a] pos) tf:=let ⟨t,h,k⟩:=b;(Z8 t (Ts h) k)
noncomputable def LL(b:AR X W a tf):Zq X W (.BoolOp .Or [a] pos) tf:=let ⟨t,h,k⟩:=b;⟨t,F4 h,k⟩
theorem O9(i:AR X W a tf)(d:Zq X W (.BoolOp .And (b::es) pos) tg):Zq X W (.BoolOp .And (a::b::es) pos) (λρ S=>(tf ρ S).bind λk S1=>if k=true then tg ρ S1 else .ok false S1):=by
 refine i.a λv i r=>?_;refine d.a λw d n=>?_;refine Z8 _ (F5 i d) (λα ρ S σ H Q o sl q=>r α ρ S σ H _ o sl (q.bind λu p S1 e s y h j m c=>?_));cases m
 cases u with
 |true=>rw[iP rfl]at c ⊢; exact n e ρ S1 σ s _ j (sl.ext h) (c.shift h)
 |false=>rw[iN0 xF0]at c ⊢; exact(c.shift h).here j rfl
def LM(i:AR X W a tf)(d:Zq X W (.BoolOp .Or (b::es) pos) tg):Zq X W (.BoolOp .Or (a::b::es) pos) (λρ S=>(tf ρ S).bind λk S1=>if k=true then .ok true S1 else tg ρ S1):=by
 refine i.a λv i r=>?_;refine d.a λw d n=>?_;refine Z8 _ (zAT i d) (λα ρ S σ H Q o sl q=>r α ρ S σ H _ o sl (q.bind λu p S1 e s y h j m c=>?_));cases m
 cases u with
 |true=>rw[iP rfl]at c ⊢; exact(c.shift h).here j rfl
 |false=>rw[iN0 xF0]at c ⊢; exact n e ρ S1 σ s _ j (sl.ext h) (c.shift h)
def QP(h:Zq X W a tf):AR X W a tf:=let ⟨t,h,k⟩:=h;(Z8 t h.pt k)
theorem EN(b:AR X W a tf):AR X W (.UnaryOp .Not a pos) (λρ S=>(tf ρ S).bind λk S1=>.ok (!k) S1):=by refine b.a λv b n=>?_;refine Z8 _ (by intro pins s σ H Q I h;exact isTrue_not (b pins s σ H (λc d=>Q (!c) d) I h)) (λα ρ S σ H Q m sl q=>n α ρ S σ H _ m sl (q.bind λu p S1 j d w o e i r=>?_));cases i;exact(r.shift o).here e rfl
end
section
variable{K:P0}
noncomputable def zP:List Er->Sto->List MV×Sto
 |[],S=>([],S)
 |.val d::rs,S=>((d::(zP rs S).1),(zP rs S).2)
 |.new xs::rs,S=>((.loc S.length::(zP rs (S++[.lst xs])).1),(zP rs (S++[.lst xs])).2)
def ArgsE.grow(q:ArgsE K H0 α H rs vs)(n:b∉IL rs vs):ArgsE K H0 (α++[b]) H rs vs:=by
 induction q with
 |nil=>exact .nil
 |@cons r v rs vs a m l ih=>
  cases r with
  |val d=>exact .cons ⟨Den.ex0 (Ex0.grow α [b] H) a.1,trivial⟩ m (ih (by simpa [IL]using n))
  |new ds=>
   obtain⟨⟨c,h,rfl,i,o,j⟩,k⟩:=a;have e:=n;refine .cons ⟨(ZB c h rfl i (λz=>?_) (j.ex0 (Ex0.grow α [b] H))),k⟩ m (ih λz=>e (mO _ z));rcases á.mp z with z|z
   .exact o z
   .exact e (by rw[mS.mp z];exact mF0)
theorem tT: ∀{rs}{vs}{α}{S},Wd g α S H->Ext α0 H0 α H->ArgsE g.K H0 α H rs vs->
  ∃α',Ext α0 H0 α' H/\Ex0 α H α' H/\Wd g α' (zP rs S).2 H/\DenL g.K α' H (zP rs S).1 vs
 |_,_,α,S,w,x,.nil=>⟨α,x,⟨⟨[],by simp⟩,λ_ _ h=>h,λ_ _ _ h=>h⟩,w,yN⟩
 |.val d::rs,v::vs,α,S,w,x,.cons a n l=>by refine(tT w x l).elim λα' p=>p.k λq m z u=>?_;exact⟨α',q,m,z,yD (Den.ex0 m a.1) u⟩
 |.new ds::rs,v::vs,α,S,w,x,.cons a n l=>by
  obtain⟨⟨c,o,rfl,i,b,j⟩,k⟩:=a;refine(tT (w.enter i b j) (w.enterx x (k c rfl) b) (l.grow (n ds c rfl rfl))).elim λα' r=>r.k λq m z u=>?_;refine⟨α',q,⟨?_,m.tup,m.frz⟩,z,yD (pI (m.at ?_)) u⟩
  .obtain⟨t,e⟩:=m.pre;exact⟨_,by rw[e,aA]⟩
  .rw[<-w.len,è (à _),sub_self];rfl
theorem CV: ∀ rs  S ,(zP rs S).1.length=rs.length
 |[],S=>rfl
 |.val d::rs,S=>by show(d::(zP rs S).1).length=_;rw[lC0,CV rs S];rfl
 |.new ds::rs,S=>by show(_::(zP rs _).1).length=_;rw[lC0,CV rs _];rfl
end
section
variable{a b c:Expr}{g h:Rho->Sto->R Er}{pos:Pos}
def zF:IM X W [] (λ_ S=>.ok [] S):=(Z8 _ sP (λα b S σ H Q a sl q=>q.here a .nil))
def zA(r:zR X W a f)(k:IM X W es af)(hs:q8 X a es:=by rfl):IM X W (a::es) (λρ S=>(f ρ S).bind λp S1=>(af ρ S1).bind λps v=>.ok (p::ps) v):=by
 refine r.a λL r K=>?_;refine k.a λP k B=>?_;refine Z8 _ (gU r k hs) (λα ρ S σ H Q F sl q=>K α ρ S σ H _ F sl (q.bind λu p S1 n y O j A s E=>B n ρ S1 σ y _ A (sl.ext j) ?_));have d:Post X.g W α H _ Q:=E
 cases z:af ρ S1 with
 |ok ps v=>
  rw[z]at d;intro M e m i o w;refine d _ e m (j.trans i) o (ArgsE.cons (DenE.ext i s) (λT b G I D=>?_) (ArgsE.back (λb h=>j.free h) w));subst G I;obtain⟨⟨c,N,J,C,_⟩,_⟩:=s;cases J;have:=ArgsE.nones w _ D;rw[C]at this;cases this
 |exc c fs v=>rw[z]at d;exact λe m i o=>d e m (j.trans i) o
 |no=>rw[z]at d;exact d
def xY(rs:List Er)(S:Sto):R Er:=if rs.length<=sizeLine then .ok (.val (.tup (zP rs S).1)) (zP rs S).2 else .no
def jX(rs:List Er)(S:Sto):R Er:=if rs.length<=sizeLine then .ok (.new (zP rs S).1) (zP rs S).2 else .no
def bQ(h:IM X W es af):zR X W (.Tuple es d pos) (λρ S=>(af ρ S).bind xY):=by
 refine h.a λt h k=>?_;refine Z8 _ (show PE X (.Tuple es d pos) (tTup t) by intro pins s σ H Q I m;refine wpAny_Tuple_spliced (wU (h pos pins s σ H _ I m) λw s1 ⟨xs,G,I1,r,z,q⟩=>⟨by rw[<-r.length];exact z,?_⟩);refine Z3 (.ref ↑39) _ (I1.laid (λb u e=>hP0 _ e) (à _) ?_) rfl (q _ (I1.hok.fresh (à _)));exact⟨z,w,r,⟨_,ä _ rfl,rfl,_,rfl⟩⟩) (λα ρ S σ H Q D sl q=>k α ρ S σ H _ D sl (q.bind λJ i C o G K d j c B=>?_));have a:Post X.g W α H (if i.length<=sizeLine then R.ok _ (zP i C).2 else R.no) Q:=B;split at a
 .rename_i F;refine(tT j d c).elim λn M=>M.k λA L y v=>?_;exact⟨by rw[ArgsE.length c];exact F,λp E=>(a.shift A).newt y E v⟩
 .exact a.elim
def jI(h:IM X W es af):zR X W (.List es pos) (λρ S=>(af ρ S).bind jX):=by
 refine h.a λt h k=>?_;refine Z8 _ (show PE X (.List es pos) (tLst t) by intro pins s σ H Q I j;refine wpAny_List_spliced (wU (h pos pins s σ H _ I j) λv s1 ⟨xs,G,I1,r,z,q⟩=>⟨by rw[<-r.length];exact z,?_⟩);refine Z3 (.ref ↑39) _ (I1.laid (λb u e=>hP0 _ e) (à _) ?_) rfl (q _ (I1.hok.fresh (à _)));exact⟨z,v,0,r,ä _ rfl⟩) (λα ρ S σ H Q C sl q=>k α ρ S σ H _ C sl (q.bind λJ d B n G K F i c A=>?_));have a:Post X.g W α H (if d.length<=sizeLine then R.ok _ (zP d B).2 else R.no) Q:=A;split at a
 .rename_i E;refine(tT i F c).elim λm M=>M.k λy L w o=>?_;exact⟨by rw[ArgsE.length c];exact E,λp D=>(a.shift y).newl w D o⟩
 .exact a.elim
inductive ArgsX(K:P0)(α:B9)(H:Hp):List Er->List V->Prop
 |nil:ArgsX K α H [] []
 |cons {r v rs vs}:DenX K α H r v->ArgsX K α H rs vs->ArgsX K α H (r::rs) (v::vs)
def ArgsE.x{K:P0}: ∀{rs vs},ArgsE K H0 α H rs vs->ArgsX K α H rs vs:=λb=>by
 induction b with
 |nil=>exact .nil
 |cons a _ l ih=>exact .cons a.1 (ih)
def qH(X:Cx)(W:XW)(r:List V->Hp->VK->Prop)(F:List Er->Sto->R Er):Prop:= ∀a b α S H Q,Wd X.g α S H->ArgsX X.K α H a b->Post X.g W α H (F a S) Q->r b H Q
def yK{id:String}{p:Pos}(v:CallR X (.builtin id) r)(o:qH X W r F)(n:Gl X x)(u:X.mg x=none)(m:bootBuiltins x=some (.builtin id))(b:IM X W (e::es) af)
  (hn:x≠"__name__":=by decide) (hdb:↑35=false:=by decide)
  (he:q8 X e es:=by rfl) (hpl:q9 X pos es:=by rfl):zR X W ↑38 (λρ S=>(af ρ S).bind F):=by
 refine b.a λt b k=>?_;exact Z8 _ (FB v n u m b hn hdb he hpl) (λα ρ S σ H Q j sl q=>k α ρ S σ H _ j sl (q.bind λi s d a z A w c h y=>o s i a d z Q c (ArgsE.x h) (y.shift w)))
def gH{p:Pos}(v:CallR X (.type T) r)(o:qH X W r F)(n:Gl X x)(u:X.mg x=none)(m:bootBuiltins x=some (.type T))(b:IM X W (e::es) af)
  (hn:x≠"__name__":=by decide) (hdb:↑35=false:=by decide)
  (he:q8 X e es:=by rfl) (hpl:q9 X pos es:=by rfl):zR X W ↑38 (λρ S=>(af ρ S).bind F):=by
 refine b.a λt b k=>?_;exact Z8 _ (CQ v n u m b hn hdb he hpl) (λα ρ S σ H Q j sl q=>k α ρ S σ H _ j sl (q.bind λi s d a z A w c h y=>o s i a d z Q c (ArgsE.x h) (y.shift w)))
def Ba(X:Cx)(W:XW)(r:V->List V->Hp->VK->Prop)(F:Er->List Er->Sto->R Er):Prop:= ∀p c x d α S b H Q a,Wd X.g α S H->Ext a b α H->DenX X.K α H p x->ArgsE X.K b α H c d->Post X.g W a b (F p c S) Q->r x d H Q
def TyM(X:Cx)(T:String)(a:Er->Sto->Bool):Prop:= ∀p x α S H,Wd X.g α S H->DenX X.K α H p x->a p S=true->zEH X.K T x H
def Dv{id:String}{apos:Pos}(B:PlainAttrs T)(c:Slot T name id)(h:↑37)(L:M7 X id r)(I:Ba X W r F)(E:TyM X T ty)
  (ho:zR X W a f) (v:IM X W (e::es) af)
  (hbase:attributeBase a name X.env (eval a X.env)=eval a X.env:=by rfl)
  (hfew:((backTo pos (starEach (e::es) X.env)).all (λx=>!x.1)&&(backToKw pos (keywordEach [] X.env)).all (λx=>x.1.isSome)
   &&decide ↑9)=true:=by rfl)
  (hline:(apos.endLine==pos.line)=true:=by rfl) (hs:q8 X e es:=by rfl) (hplain:q9 X pos es:=by rfl):
  zR X W (.Call (.Attribute a name apos) (e::es) [] pos) (λρ S=>(f ρ S).bind λp S1=>if ty p S1=true then(af ρ S1).bind λrs m=>F p rs m else .no):=by
 refine ho.a λN ho z=>?_;refine v.a λt v k=>?_;refine Z8 _ (zBT B c h L ho v hbase hfew hline hs hplain) (λα ρ S σ H Q G sl q=>z α ρ S σ H _ G sl (q.bind λu p S1 b j M w n o i=>?_));split at i
 .rename_i K;exact⟨E p u b S1 j n o.1 K,k b ρ S1 σ j _ n (sl.ext w) ((i.shift w).bind λA rs m d y O s D J C=>I p rs u A d m j y Q b D s (o.1.ext s) J C)⟩
 .exact i.elim
def XD{id:String}{apos:Pos}(o:PlainAttrs T)(c:Slot T name id)(e:↑37)(w:M7 X id r)(s:Ba X W r F)(n:TyM X T ty)
  (ho:zR X W a f) (hbase:attributeBase a name X.env (eval a X.env)=eval a X.env:=by rfl) (hline:(apos.endLine==pos.line)=true:=by rfl):
  zR X W (.Call (.Attribute a name apos) [] [] pos) (λρ S=>(f ρ S).bind λp S1=>if ty p S1=true then F p [] S1 else .no):=by
 refine ho.a λz ho k=>?_;refine Z8 _ (N2 o c e w ho hbase hline) (λα ρ S σ H Q m sl q=>k α ρ S σ H _ m sl (q.bind λu p S1 b d A y i j h=>?_));split at h
 .rename_i v;exact⟨n p u b S1 d i j.1 v,s p [] u [] b S1 d d Q b i (Ext.refl _ _) j.1 .nil (h.shift y)⟩
 .exact h.elim
def CW:O4 X W none (λ_ S=>.ok none S):=(Z8 _ (by intro pins s σ H Q I h;exact wP (Z3 none H I .none h)) (λα b S σ H Q a sl q=>q.here a rfl))
noncomputable def IP:Er->Sto->R (Option Int)
 |.val (.int i),S=>.ok (some i) S
 |_,_=>.no
def rN(c:zR X W a f):O4 X W (some a) (λρ S=>(f ρ S).bind IP):=by
 refine c.a λo c j=>?_;refine Z8 _ (Uh c) (λα ρ S σ H Q i sl q=>j α ρ S σ H _ i sl (q.bind λu p n h m r k d e b=>?_));unfold IP at b;split at b
 .exact⟨_,yV e.1,(b.shift k).here d rfl⟩
 .exact b.elim
def Sl3(X:Cx)(W:XW)(r:V->Option Int->Option Int->Hp->VK->Prop)(F:Er->Option Int->Option Int->Sto->R Er):Prop:= ∀p lo hi x α S H Q,Wd X.g α S H->DenX X.K α H p x->Post X.g W α H (F p lo hi S) Q->r x lo hi H Q
def Ms{lo:Option Expr}(w:SlR X r)(N:Sl3 X W r F)(i:zR X W a f)(k:O4 X W lo lf)(j:O4 X W hi hf):
  zR X W (.Subscript a (.Slice lo hi none p2) pos) (λρ S=>(f ρ S).bind λp S1=>(lf ρ S1).bind λl v=>(hf ρ v).bind λu d=>F p l u d):=by
 refine i.a λZ i U=>?_;refine k.a λtl k G=>?_;refine j.a λY j B=>?_
 refine(Z8 _ (Lz w i k j) (λα ρ S σ H Q L sl q=>U α ρ S σ H _ L sl (q.bind λu p S1 c s e1 n y A J=>G c ρ S1 σ s _ y (sl.ext n) ((J.shift n).bind λM l v b z e2 h I O E=>
  B b ρ v σ z _ I ((sl.ext n).ext h) ((E.shift h).bind λK m d e D e3 o T P C=>?_)))))
 cases O;cases P;exact N p M K u e d D Q T ((A.1.ext h).ext o) (C.shift o)
end
inductive Fl where
 |next (ρ:Rho)|ret (r:Er)|brk (ρ:Rho)|cont (ρ:Rho)
abbrev AX:=Rho->Sto->R Er
abbrev AY:=Rho->Sto->R Fl
abbrev AZ:=Rho->Sto->R Bool
def PostS(g:Gm)(W:XW)(α:B9)(H:Hp)(D:Ends):R Fl->Prop
 |.ok (.next ρ) S=> ∀σ α' H',Ext α H α' H'->Wd g α' S H'->Slots g.K α' H' ρ σ->D.nx σ H'
 |.ok (.ret r) S=> ∀v α' H',Ext α H α' H'->Wd g α' S H'->DenE g.K H α' H' r v->D.rt v H'
 |.ok (.brk ρ) S=> ∀σ α' H',Ext α H α' H'->Wd g α' S H'->Slots g.K α' H' ρ σ->D.bk σ H'
 |.ok (.cont ρ) S=> ∀σ α' H',Ext α H α' H'->Wd g α' S H'->Slots g.K α' H' ρ σ->D.ct σ H'
 |.exc c fs S=> ∀α' H',Ext α H α' H'->Wd g α' S H'->W c fs S α' H'
 |.no=>False
section
def PostS.shift(x:Ext α H α' H'): ∀{m},PostS g W α H D m->PostS g W α' H' D m
 |.ok (.next ρ) S,q=>λσ d u B z G=>q σ d u (x.trans B) z G
 |.ok (.ret r) S,q=>λv d u B z I=>q v d u (x.trans B) z (I.back λb h=>x.free h)
 |.ok (.brk ρ) S,q=>λσ d u B z G=>q σ d u (x.trans B) z G
 |.ok (.cont ρ) S,q=>λσ d u B z G=>q σ d u (x.trans B) z G
 |.exc c fs S,q=>λd u B z=>q d u (x.trans B) z
 |.no,q=>q
def PostS.expr[Dn β τ]{k:β->Sto->R Fl}(q:PostS g W α H D (m.bind k))
  (f: ∀u b S1 v z,m=.ok b S1->Ext α H v z->Wd g v S1 z->Dn.d g H v S1 z b u->PostS g W α H D (k b S1)->Q' u z):Post g W α H m Q':=by
 cases m with
 |ok b S=>exact λu v z x w d=>f u b S v z rfl x w d q
 |exc c fs S=>exact q
 |no=>exact q
def PostS.stmt(q:PostS g W α H D (m.bind k))
  (hn: ∀ρ S σ u z,m=.ok (.next ρ) S->Ext α H u z->Wd g u S z->Slots g.K u z ρ σ->PostS g W α H D (k (.next ρ) S)->D'.nx σ z)
  (hr: ∀r S v u z,m=.ok (.ret r) S->Ext α H u z->Wd g u S z->DenE g.K H u z r v->PostS g W α H D (k (.ret r) S)->D'.rt v z)
  (hb: ∀ρ S σ u z,m=.ok (.brk ρ) S->Ext α H u z->Wd g u S z->Slots g.K u z ρ σ->PostS g W α H D (k (.brk ρ) S)->D'.bk σ z)
  (hc: ∀ρ S σ u z,m=.ok (.cont ρ) S->Ext α H u z->Wd g u S z->Slots g.K u z ρ σ->PostS g W α H D (k (.cont ρ) S)->D'.ct σ z):PostS g W α H D' m:=by
 cases m with
 |ok fl S=>
  cases fl with
  |next ρ=>exact λσ u z x w s=>hn ρ S σ u z rfl x w s q
  |ret r=>exact λv u z x w d=>hr r S v u z rfl x w d q
  |brk ρ=>exact λσ u z x w s=>hb ρ S σ u z rfl x w s q
  |cont ρ=>exact λσ u z x w s=>hc ρ S σ u z rfl x w s q
 |exc c fs S=>exact q
 |no=>exact q
end
def LN(X:Cx)(W:XW)(st:Stmt)(F:AY):Prop:=
 ∃t,PS X st t/\ ∀α a S σ H D,Wd X.g α S H->Slots X.K α H a σ->PostS X.g W α H D (F a S)->t D σ H
def uP(X:Cx)(W:XW)(st:List Stmt)(F:AY):Prop:=
 ∃t,PSs X st t/\ ∀α a S σ H D,Wd X.g α S H->Slots X.K α H a σ->PostS X.g W α H D (F a S)->t D σ H
noncomputable def zL(F G:AY):AY:=λb S=>(F b S).bind λc a=>match c with
 |.next ρ'=>G ρ' a
 |.ret r=>.ok (.ret r) a
 |.brk ρ'=>.ok (.brk ρ') a
 |.cont ρ'=>.ok (.cont ρ') a
section
variable{X:Cx}{W:XW}{st:Stmt}{as:List Stmt}{F:AY}{g:AX}{e c:Expr}{pos:Pos}
def eA:uP X W [] (λρ S=>.ok (.next ρ) S):=(Z8 _ (λ_ _ σ H _ I h=>ĕ (Z0 (σ) H I h)) (λα ρ S σ H D a sl q=>q σ α H (Ext.refl α H) a sl))
def zU(h:LN X W st F):uP X W [st] F:=let ⟨t,h,k⟩:=h;(Z8 t (Tu h) k)
def zK(n:LN X W st F)(p:uP X W sts G):uP X W (st::sts) (zL F G):=by
 refine n.a λt n B=>?_;refine p.a λu p C=>?_;refine(Z8 _ (by
   intro pins s σ H D I h;refine Ğ (wU (n pins s σ H {D with nx:=u D} I h) λf s1 q=>?_)
   cases f with
   |next=>
    refine q.d λo H' y q=>?_;exact p pins s1 o H' D y q
   |ret v=>exact q
   |brk=>exact q
   |cont=>exact q) (λα z S σ H D A sl q=>B α z S σ H _ A sl (q.stmt ?_ ?_ ?_ ?_)))
 .intro i m b a k e j c s1 d;exact C a i m b k D c s1 (PostS.shift j d)
 .intro r m v a k e j c w d;exact d v a k j c w
 .intro i m b a k e j c s1 d;exact d b a k j c s1
 .intro i m b a k e j c s1 d;exact d b a k j c s1
def wW(b:zR X W e f):LN X W (.Return (some e) pos) (λρ S=>(f ρ S).bind λr S1=>.ok (.ret r) S1):=by refine b.a λt b k=>?_;exact Z8 _ (by intro pins s σ H D I h;exact wpAny_Return_some (wU (b pins s σ H _ I h) λv s1 ⟨x,a,I1,m,d⟩=>(Y3 x (σ) a I1 m d))) (λα ρ S σ H D n sl q=>k α ρ S σ H _ n sl (q.expr λu r S1 c a e o i j d=>d u c a o i j))
def nK(a:zR X W e f)(hs:swapsWith e none pos.line X.env=pure false:=by rfl):LN X W (.Expr e pos) (λρ S=>(f ρ S).bind λ_ S1=>.ok (.next ρ) S1):=by refine a.a λt a k=>?_;exact Z8 _ (by intro pins s σ H D I h;exact wpAny_Expr_any (wU (a pins s σ H _ I h) λv s1 ⟨x,d,I1,o,c⟩=>(Z0 (σ) d I1 c)) I.quiet hs) (λα ρ S σ H D m sl q=>k α ρ S σ H _ m sl (q.expr λu r S1 b d e i j n c=>c σ b d i j (sl.ext i)))
def iH(i:AR X W c tf)(j:uP X W as F)(h:uP X W bs G):LN X W (.If c as bs pos) (λρ S=>(tf ρ S).bind λk S1=>if k=true then F ρ S1 else G ρ S1):=by
 refine i.a λz i r=>?_;refine j.a λy j o=>?_;refine h.a λA h w=>?_;refine Z8 _ (zAZ i j h) (λα ρ S σ H D v sl q=>r α ρ S σ H _ v sl (q.expr λu p S1 a m e b n s d=>?_));cases s
 cases u with
 |true=>rw[iP rfl]at d ⊢; exact o a ρ S1 σ m D n (sl.ext b) (PostS.shift b d)
 |false=>rw[iN0 xF0]at d ⊢; exact w a ρ S1 σ m D n (sl.ext b) (PostS.shift b d)
instance:Dn Rho St:=⟨λg _ α' _ H' a σ=>Slots g.K α' H' a σ,λ_ q=>q⟩
def Mt(X:Cx)(W:XW)(tg:Expr)(gf:↑24):Prop:=
 ∃t,PG X tg t/\ ∀α a S σ H d v Q,Wd X.g α S H->Slots X.K α H a σ->Den X.K α H d v->Post X.g W α H (gf d a S) Q->t v σ H Q
def Mu(X:Cx)(W:XW)(a:O0)(gf:List MV->Rho->Sto->R Rho):Prop:=
 ∃t,zBA X a t/\ ∀α b S σ H c d Q,Wd X.g α S H->Slots X.K α H b σ->DenL X.K α H c d->Post X.g W α H (gf c b S) Q->t d σ H Q
noncomputable def xF(i:Nat):MV->Rho->Sto->R Rho:=λd a S=>.ok (a.set i (some d)) S
def nL(i)(a:X.N.Nodup)(hi:X.N[i]? =some x:=by rfl)(b:Loc ↑23 x:=by first |exact Or.inl rfl|exact Or.inr rfl)(h:Q0 X x:=by first |exact .inl rfl|exact .inr rfl|assumption):
  Mt X W (.Name x pos) (xF i):=(Z8 _ (Dl a hi b h) (λα j S σ H d v Q c sl e q=>Post.here q c (sl.set e)))
noncomputable def vS:List MV->Rho->Sto->R Rho
 |[],ρ,S=>.ok ρ S
 |_,_,_=>.no
noncomputable def wH(b:↑24)(a:List MV->Rho->Sto->R Rho):List MV->Rho->Sto->R Rho
 |d::ds,ρ,S=>(b d ρ S).bind λm S1=>a ds m S1
 |_,_,_=>.no
def TH:Mu X W [] vS:=(Z8 _ (show zBA X [] gNil by intro pins s σ H b k Q I r h;obtain⟨e,h⟩:=h;subst e;exact assignInOrder_nil (Z0 (σ) H I h)) (λα j S σ H a b Q c sl i q=>by
 cases a with
 |nil=>exact⟨i.isnil,Post.here q c sl⟩
 |cons d a=>exact q.elim))
def uQ(b:Mt X W e g1)(h:Mu X W es g2)(hs:(assignEach (e::es) X.env).map (·.2)=assign e X.env::(assignEach es X.env).map (·.2):=by rfl):Mu X W (e::es) (wH g1 g2):=by
 refine b.a λD b y=>?_;refine h.a λE h B=>?_;refine Z8 _ (Lo b h hs) (λα o S σ H i C Q w sl z q=>?_)
 cases i with
 |nil=>exact q.elim
 |cons d i=>
  refine z.uncons.b λv r g a l=>?_;subst g;refine Z0 v r rfl (y α o S σ H d v _ w sl a (Post.bind q λu p s c A e j k m n=>B c p s u A i r Q k m (l.ext j) (n.shift j)))
noncomputable def Io(n:Nat)(a:List MV->Rho->Sto->R Rho):MV->Rho->Sto->R Rho
 |.tup ds,ρ,S=>if ds.length=n then a ds ρ S else .no
 |_,_,_=>.no
def TJ{k:Nat}(m:X.calm=true)(h:Mu X W es g2)
  (hn:(assignEach es X.env).length=n:=by rfl) (hst:(assignEach es X.env).findIdx? (·.1)=none:=by rfl):Mt X W (.Tuple es k pos) (Io n g2):=by
 refine h.a λt h k=>?_;refine Z8 _ (K1 m h hn hst) (λα c S σ H d v Q e sl i q=>?_);unfold Io at q;split at q
 .split at q
  .rename_i j;refine(wV i).b λa b g s l=>?_;subst g;exact ZB a b rfl s (by rw[l.length];exact j) (k α c S σ H _ b Q e sl l q)
  .exact q.elim
 .exact q.elim
noncomputable def iO(r:Er)(S:Sto):R MV:=match r with
 |.val d=>.ok d S
 |.new ds=>.ok (.loc S.length) (S++[.lst ds])
def tU{g:Gm}(w:Wd g α S H)(x:Ext α0 H0 α H)(d:DenE g.K H0 α H r v):
  ∃m S' α',iO r S=.ok m S'/\Ext α0 H0 α' H/\Ex0 α H α' H/\Wd g α' S' H/\Den g.K α' H m v:=by
 cases r with
 |val m=>exact Y6 m S (α) rfl x ⟨⟨[],by simp⟩,λ_ _ h=>h,λ_ _ _ h=>h⟩ w d.1
 |new ds=>
  obtain⟨⟨c,j,rfl,b,a,e⟩,i⟩:=d;exact Y6 _ _ _ rfl (w.enterx x (i c rfl) a) (Ex0.grow α [c] H) (w.enter b a e) (pI (by rw[<-w.len,è (à _),sub_self];rfl))
def JH(ρ:Rho)(i:Nat)(r:Er)(S:Sto):R Fl:=(iO r S).bind λd a=>.ok (.next (ρ.set i (some d))) a
def zZ(i){pos':Pos}(m:X.N.Nodup)(a:zR X W e f)(hi:X.N[i]? =some x:=by rfl)(n:Loc ↑23 x:=by first |exact Or.inl rfl|exact Or.inr rfl)
  (hs:swapsWith e (some (.Name x pos')) pos.line X.env=pure false:=by rfl) (hf:Q0 X x:=by first |exact .inl rfl|exact .inr rfl|assumption):
  LN X W (.Assign [.Name x pos'] e pos) (λρ S=>(f ρ S).bind (JH ρ i)):=by
 refine a.a λt a k=>?_;refine Z8 _ (K5 m hi n a hs hf) (λα ρ S σ H D s sl q=>k α ρ S σ H _ s sl (q.expr λu r A o d e c h j b=>?_));refine(tU h c j).p λB C α' w v p y z=>?_;unfold JH at b;rw[w]at b;exact b _ α' d v y (((sl.ext c).ex0 p).set z)
def Vb(gf:↑24)(ρ:Rho)(r:Er)(S:Sto):R Fl:=(iO r S).bind λd b=>(gf d ρ b).bind λa c=>.ok (.next a) c
def Bb(b:zR X W e f)(d:Mt X W tg gf)(hs:swapsWithSole [tg] e pos.line X.env=pure false:=by rfl)(hw:swappedStores [tg] e X.env=pure none:=by rfl)
  (h1:(assignEach [tg] X.env).map (·.2)=[assign tg X.env]:=by rfl):LN X W (.Assign [tg] e pos) (λρ S=>(f ρ S).bind (Vb gf ρ)):=by
 refine b.a λt b k=>?_;refine d.a λI d v=>?_;refine Z8 _ (K4 b d hs hw h1) (λα ρ S σ H D G sl q=>k α ρ S σ H _ G sl (q.expr λu r O w N e n o s a=>?_));refine(tU o n s).p λm i α' A y F B L=>?_;unfold Vb at a;rw[A]at a;have a:PostS X.g W α H D ((gf m ρ i).bind λJ j=>.ok _ j):=a;exact v α' ρ i σ N m u _ B ((sl.ext n).ex0 F) L ((PostS.shift y a).expr λh K j c p P E C M z=>z h c p E C M)
structure Wk where
 ds:List MV
 gs:List (Nat×List MV)
def stay(gs:V0)(S:Sto):Prop:= ∀p∈gs,S[p.1]? =some (.lst p.2)
def zCC(g:Gm)(J:It)(P:List Addr->Sto->Hp->Prop)(ds:R0):Prop:= ∀i α S H,P α S H->Wd g α S H->(i<↑12->J.go i H/\ ∀x H',J.yld i H x H'->Ext α H α H'/\Wd g α S H'/\P α S H'/\ ∃d,ds[i]? =some d/\Den g.K α H' d x)/\(↑12<=i->J.stop i H)
structure WkD(g:Gm)(α:B9)(S:Sto)(H:Hp)(k:Wk)(J:It)(P:List Addr->Sto->Hp->Prop):Prop where
 it:zCC g J P k.ds
 here:P α S H
 stays: ∀α1 S1 H1 α2 S2 H2,P α1 S1 H1->Ext α1 H1 α2 H2->Wd g α2 S2 H2->stay k.gs S2->P α2 S2 H2
 st:stay k.gs S
instance:Dn Wk It:=⟨λg _ α S H k J=> ∃P,WkD g α S H k J P,λ_ q=>q⟩
abbrev WI(X:Cx)(W:XW)(tg iter:Expr)(f:Rho->Sto->R Wk):Prop:=Jd X W (PI X tg iter) f
variable{tg iter:Expr}
theorem FG:zCC X.g (zED X.K a) (λα S H=> ∃vs,SqL X.K H a vs/\DenL X.K α H ds vs) ds:=by intro i α S H ⟨vs,s,l⟩ w;have e:=l.length;refine⟨λhi=>?_,λhi=>⟨vs,s,by lia⟩⟩;refine⟨(Z0 vs _ s (gE #[0])),λx H' y=>?_⟩;obtain⟨rfl,y⟩:=y;refine(l.get (y vs s)).a λd b c=>?_;exact⟨Ext.refl _ _,w,(Z8 vs s l),d,b,c⟩
theorem Dw:zCC X.g (zEE X.K a) (λα S H=> ∃vs,SqT X.K H a vs/\DenL X.K α H ds vs) ds:=by intro i α S H ⟨vs,s,l⟩ w;have e:=l.length;refine⟨λhi=>?_,λhi=>⟨vs,s,by lia⟩⟩;refine⟨(Z0 vs _ s (gE #[0])),λx H' y=>?_⟩;obtain⟨rfl,y⟩:=y;refine(l.get (y vs s)).a λd b c=>?_;exact⟨Ext.refl _ _,w,(Z8 vs s l),d,b,c⟩
noncomputable def IQ:Er->Sto->R Wk
 |.new ds,S=>.ok ⟨ds,[]⟩ S
 |.val (.scr ds),S=>.ok ⟨ds,[]⟩ S
 |.val (.loc l),S=>match S[l]? with
  |some (.lst ds)=>.ok ⟨ds,[(l,ds)]⟩ S
  |_=>.no
 |_,_=>.no
def kE:stay [] S:=λp h=>by simp at h
def pK(U:zR X W iter f):WI X W tg iter (λρ S=>(f ρ S).bind IQ):=by
 refine U.a λt U k=>?_;refine Z8 _ (Tz U) (λα ρ S σ H Rc wd sl q=>k α ρ S σ H _ wd sl (q.bind λu p S1 aa H1 e x1 P Y z=>?_))
 replace z:=z.shift x1
 unfold IQ at z;split at z
 .rename_i S0 D;obtain⟨⟨b,m,rfl,E,T,Q⟩,h4⟩:=Y;refine Z1 b rfl ⟨m,.of E⟩ (z.here P ⟨λd A r=> ∃m,SqL X.K r b m/\DenL X.K d r D m/\r b=some (.lst m)/\b∉d,?_,⟨m,.of E,Q,E,T⟩,?_,kE⟩)
  .intro i d A r ⟨j,B,w,v,J⟩ M;obtain⟨C,O⟩:=FG i d A r (Z8 j B w) M;refine⟨λhi=>⟨(C hi).1,λx H' y=>?_⟩,O⟩;refine((C hi).2 x H' y).k λN I j3 F=>?_;obtain⟨rfl,_⟩:=y;exact⟨N,I,⟨j,B,w,v,J⟩,F⟩
  .intro d A r L S3 H3 ⟨j,B,w,v,J⟩ x w3 _;exact⟨j,.of (x.keep b _ v J),w.ext x,x.keep b _ v J,x.out v J⟩
 .rename_i S0 D;refine(LI Y.1).b λa m g s l=>?_;subst g;refine⟨a,rfl,⟨m,s.l⟩,z.here P ⟨λd A r=> ∃m,SqL X.K r a m/\DenL X.K d r D m/\SqF X.K r a m,?_,(Z1 m s.l l s),?_,kE⟩⟩
  .intro i d A r ⟨j,B,w,v⟩ M;obtain⟨C,O⟩:=FG i d A r (Z8 j B w) M;refine⟨λhi=>⟨(C hi).1,λx H' y=>?_⟩,O⟩;refine((C hi).2 x H' y).k λN I j3 F=>?_;obtain⟨rfl,_⟩:=y;exact⟨N,I,(Z1 j B w v),F⟩
  .intro d A r L S3 H3 ⟨j,B,w,v⟩ x w3 _;exact Z1 j ((x.sqF v).l) (w.ext x) (x.sqF v)
 .rename_i S0 n;refine(aG Y.1).a λa R h=>?_;subst R;refine(P.of h).a λo E T=>?_;rw[E]at z
  cases o with
  |lst D=>
   refine T.a λm Q l=>?_;refine Z1 a rfl ⟨m,.of Q⟩ (Post.here z P ⟨λd A r=> ∃m,SqL X.K r a m/\DenL X.K d r D m/\d[n]? =some a,?_,(Z1 m (.of Q) l h),?_,?_⟩)
   .intro i d A r ⟨j,B,w,v⟩ M;obtain⟨C,O⟩:=FG i d A r (Z8 j B w) M;refine⟨λhi=>⟨(C hi).1,λx H' y=>?_⟩,O⟩;refine((C hi).2 x H' y).k λN I j3 F=>?_;obtain⟨rfl,_⟩:=y;exact⟨N,I,(Z1 j B w v),F⟩
   .intro d A r L S3 H3 ⟨j,B,w,v⟩ x w3 hs;have G:=x.at v;have:=w3.obj n a _ G (hs (n,D) (by simp));refine this.a λZ b1 b2=>?_;exact Z1 Z (.of b1) b2 G
   .intro p hp;have:=by simpa using hp
    subst this;exact E
  |dic D=>exact z.elim
  |ins c fs=>exact z.elim
  |rcd c fs=>exact z.elim
  |fdc _=>exact z.elim
 .exact z.elim
noncomputable def Iq:Er->Sto->R Wk
 |.val (.tup ds),S=>.ok ⟨ds,[]⟩ S
 |_,_=>.no
def Bc(c:zR X W iter f):WI X W tg iter (λρ S=>(f ρ S).bind Iq):=by
 refine c.a λt c k=>?_;refine Z8 _ (K9 c) (λα ρ S σ H Rc w sl q=>k α ρ S σ H _ w sl (q.bind λu p E n I e y i m b=>?_))
 replace b:=b.shift y
 unfold Iq at b;split at b
 .rename_i C F;refine(mW m.1).b λa h g s l=>?_;subst g;exact Z1 a rfl ⟨h,s⟩ (b.here i ⟨_,Dw,(Z8 h s l),λj D z v A B ⟨d,o,r⟩ x G _=>(Z8 d (x.sqT o) (r.ext x)),kE⟩)
 .exact b.elim
noncomputable def zEI:Er->Sto->R Wk
 |.val (.str x),S=>.ok ⟨x.map λc=>.str [c],[]⟩ S
 |_,_=>.no
def P2(b:zR X W iter f):WI X W tg iter (λρ S=>(f ρ S).bind zEI):=by
 refine b.a λt b k=>?_;refine Z8 _ (N7 b) (λα ρ S σ H Rc n sl q=>k α ρ S σ H _ n sl (q.bind λu p z m A e r d h a=>?_))
 replace a:=a.shift r
 unfold zEI at a;split at a
 .rename_i s x;exact⟨x,bP h.1,a.here (u:=zBW x) d ⟨_,(by intro i α S H _ w;refine⟨λhi=>⟨show i<x.length by simpa using hi,λv H' y=>?_⟩,λhi=>by show x.length<=i;simpa using hi⟩;obtain⟨rfl,c,j,o⟩:=y;refine⟨Ext.refl _ _,w,trivial,.str [c],by rw[ë,j];rfl,?_⟩;rw[o];exact nI [c]),trivial,λ_ _ _ _ _ _ _ _ _ _=>trivial,kE⟩⟩
 .exact a.elim
noncomputable def kG:List Er->Sto->R Wk
 |[.val (.int j)],S=>if -(2 ^ 62)<=j/\j<2 ^ 62 then .ok ⟨(List.range j.toNat).map λk=>.int (k:Nat),[]⟩ S else .no
 |_,_=>.no
variable{p:Pos}{a:Expr}
def QQ{K:P0}(d:ArgsE K H0 α H [r] vs): ∃v,vs=[v]/\DenX K α H r v:=by
 cases d with
 |cons a n l=>cases l;exact Z8 _ rfl a.1
def QR(z: ∀ d  n ,TurnC C X.prog X.w X.K tg (Zk 0 n) [d] d (λi h=>IsRangeIter h d (0+ i  * 1) ( n  -  i ) 1))(u:Gl X "range")(D:X.mg "range"=none)(c:IM X W [a] af)(hs:starEach [a] X.env=[(false,eval a X.env)]):Jd X W (Tx C X tg (.Call (.Name "range" p) [a] [] pos)) (λρ S=>(af ρ S).bind kG):=by
 refine c.a λt c k=>?_;refine Z8 _ (Hq z u D c hs) (λα ρ S σ H Rc A sl q=>k α ρ S σ H _ A sl (q.bind λF J I s L e E o r b=>?_))
 replace b:=b.shift E
 unfold kG at b;split at b
 .split at b
  .rename_i G j m;refine(QQ r).a λv M B=>?_;subst M;cases yV B;have:=(show zCC X.g (Zk 0 (j.toNat)) (λ_ _ _=>True) ((List.range (j.toNat)).map λk=>.int (0+(k:Nat))) by intro i α S H _ w;refine⟨λhi=>⟨show i<(j.toNat) by simpa using hi,λv H' y=>?_⟩,λhi=>by show (j.toNat)<=i;simpa using hi⟩;obtain⟨rfl,y⟩:=y;refine⟨Ext.refl _ _,w,trivial,_,by rw[ë,List.getElem?_range (by simpa using hi)];rfl,?_⟩;rw[y];exact yU _);simp only[Int.zero_add]at this;exact⟨j,rfl,m.1,m.2,b.here o ⟨_,this,trivial,λ_ _ _ _ _ _ _ _ _ _=>trivial,kE⟩⟩
  .exact b.elim
 .exact b.elim
def qD(e:Gl X "range")(b:X.mg "range"=none)(d:IM X W [a] af)(hs:starEach [a] X.env=[(false,eval a X.env)]:=by rfl):WI X W tg (.Call (.Name "range" p) [a] [] pos) (λρ S=>(af ρ S).bind kG):=QR (λc n=>KR c 0 n) e b d hs
open Classical in
noncomputable def jK(gf:↑24)(a:AY)(gs:V0):List MV->AY
 |[],ρ,S=>.ok (.next ρ) S
 |d::ds,ρ,S=>(gf d ρ S).bind λρ0 S0=>(a ρ0 S0).bind λm S1=>match m with
  |.next ρ'=>if stay gs S1 then jK gf a gs ds ρ' S1 else .no
  |.cont ρ'=>if stay gs S1 then jK gf a gs ds ρ' S1 else .no
  |.brk ρ'=>.ok (.next ρ') S1
  |.ret r=>.ok (.ret r) S1
open Classical in
def uR{Z:Rho->Sto->R Wk}{gf:↑24}(hp:PassesOwn ↑5 X.A X.env X.xe)(hc:X.calm=true)(hi:WI X W tg iter Z)(hg:Mt X W tg gf)(hb:uP X W as F)
  (hs: ∀y,foldedSetIterable iter X.env y=pure y:=by intro _;rfl):LN X W (.For tg iter as [] pos) (λρ S=>(Z ρ S).bind λk S1=>jK gf F k.gs k.ds ρ S1):=by
 obtain⟨wi,hi,ki⟩:=hi;obtain⟨ah,hg,kg⟩:=hg;obtain⟨tb,hb,kb⟩:=hb;refine⟨_,L3 hp hc hi hg hb hs,λα ρ S σ H D wd sl q=>ki α ρ S σ H _ wd sl (q.expr λJ k S1 ab H1 e x1 w1 d1 q1=>?_)⟩;obtain⟨P,hP⟩:=d1;have ae:=sl.ext x1
 replace q1:=PostS.shift x1 q1
 refine⟨λn m E O=>m=k.ds.length - n/\n<=k.ds.length/\ ∃b B M,Wd X.g b M O/\Slots X.K b O B E/\P b M O/\PostS X.g W b O D (jK gf F k.gs (k.ds.drop n) B M),⟨_,rfl,zero_le _,ab,ρ,S1,w1,ae,hP.here,by simpa using q1⟩,?_⟩;rintro n m E O ⟨rfl,hn,b,B,M,w2,aa,p2,L⟩;obtain⟨i1,i2⟩:=hP.it n b M O p2 w2;by_cases z:n<k.ds.length
 .obtain⟨go,yl⟩:=i1 z;refine .inr ⟨go,λU s=> ∃i u Y,Wd X.g i Y s/\Slots X.K i s u U/\P i Y s/\PostS X.g W i s D (jK gf F k.gs (k.ds.drop (n+1)) u Y),λU s ⟨i,u,Y,h3⟩=>⟨k.ds.length - (n+1),by omega,rfl,z,i,u,Y,h3⟩,λv s y=>?_⟩;obtain⟨x3,w3,p3,d,hd,dv⟩:=yl v s y;have N:k.ds.drop n=d::k.ds.drop (n+1):=by rw[List.drop_eq_getElem_cons z];have:=gE z;rw[hd]at this;rw[<-å this]
  rw[N]at L;unfold jK at L
  replace L:=PostS.shift x3 L
  refine kg b B M E s d v _ w3 (aa.ext x3) dv (L.expr λaf ag S4 C H4 e4 x4 w4 s4 q4=>?_);have p4: ∀a c H5,Ext C H4 a H5->Wd X.g a c H5->stay k.gs c->P a c H5:=λa c H5 o p G=>hP.stays b M s a c H5 p3 (x4.trans o) p G;refine kb C ag S4 af H4 _ w4 s4 ((PostS.shift x4 q4).stmt ?_ ?_ ?_ ?_)
  .intro j c T a H5 e5 o p G Q;have h:PostS X.g W C H4 D (if stay k.gs c then jK gf F k.gs (k.ds.drop (n+1)) j c else .no):=Q;split at h
   .rename_i I;exact⟨a,j,c,p,G,p4 a c H5 o p I,PostS.shift o h⟩
   .exact h.elim
  .intro r c v5 a H5 e5 o p d5 Q;exact Q v5 a H5 o p d5
  .intro j c T a H5 e5 o p G Q;exact Q T a H5 o p G
  .intro j c T a H5 e5 o p G Q;have h:PostS X.g W C H4 D (if stay k.gs c then jK gf F k.gs (k.ds.drop (n+1)) j c else .no):=Q;split at h
   .rename_i I;exact⟨a,j,c,p,G,p4 a c H5 o p I,PostS.shift o h⟩
   .exact h.elim
 .have e:n=k.ds.length:=by omega
  subst e;refine .inl ⟨i2 (à _),?_⟩;rw[List.drop_length]at L;exact L E b O (Ext.refl _ _) w2 aa
noncomputable def jY(t:AZ)(b:AY):Nat->AY
 |0,_,_=>.no
 |n+1,ρ,S=>(t ρ S).bind λk S1=>if k=true then(b ρ S1).bind λm d=>match m with
   |.next ρ'=>jY t b n ρ' d
   |.cont ρ'=>jY t b n ρ' d
   |.brk ρ'=>.ok (.next ρ') d
   |.ret r=>.ok (.ret r) d
  else .ok (.next ρ) S1
def LO(N)(hp:PassesOwn ↑5 X.A X.env X.xe)(L:AR X W c tf)(J:uP X W as F):LN X W (.While c as [] pos) (λρ S=>jY tf F N ρ S):=by
 refine L.a λtc L U=>?_;refine J.a λtb J kb=>?_;refine Z8 _ (Lq hp L J) (λα ρ S σ H D wd sl q=>⟨λm e E=> ∃b d G,Wd X.g b G E/\Slots X.K b E d e/\PostS X.g W b E D (jY tf F m d G),(Y4 N (α) (ρ) S ⟨wd,sl,q⟩),?_⟩);rintro m e E ⟨b,d,G,T,s,P⟩
 cases m with
 |zero=>exact P.elim
 |succ n=>
  refine U b d G e E _ T s (P.expr λu p S2 y O e2 M Q d2 B=>?_);cases d2
  replace B:=PostS.shift M B
  cases u with
  |false=>rw[iN0 xF0]at B ⊢; exact B e y O (Ext.refl _ _) Q (s.ext M)
  |true=>
   refine⟨λZ H3=> ∃ae ab S3,_,λaa H' h=>(Z8 n (Nat.lt_succ_self n) h),kb y d S2 e O _ Q (s.ext M) (B.stmt ?_ ?_ ?_ ?_)⟩
   .intro i C v a H5 I k j z o;exact⟨a,i,C,j,z,PostS.shift k o⟩
   .intro r C v5 a H5 I k j Y o;exact o v5 a H5 k j Y
   .intro i C v a H5 I k j z o;exact o v a H5 k j z
   .intro i C v a H5 I k j z o;exact⟨a,i,C,j,z,PostS.shift k o⟩
end
noncomputable def noX:R β->R β
 |.ok b S=>.ok b S
 |_=>.no
theorem yO(b:β)(S):noX (R.ok b S)=.ok b S:=rfl
def Post.bindY[Dn β τ][Dn γ υ]{g:Gm}{W:XW}{α α':B9}{H H':Hp}(x:Ext α H α' H'){m:R β}{k:β->Sto->R γ}{Q:υ->Hp->Prop}{a:τ->Hp->Prop}(q:Post g W α H ((noX m).bind k) Q)
  (f: ∀u b S1 v z,m=.ok b S1->Ext α' H' v z->Wd g v S1 z->Dn.d g H' v S1 z b u->Post g W α H (k b S1) Q->a u z):Post g W0 α' H' m a:=by
 cases m with
 |ok b S=>exact λu v z x w d=>f u b S v z rfl x w d q
 |exc c fs S=>exact q.elim
 |no=>exact q
theorem R.bind_assoc(m:R β)(k1)(k2:γ->Sto->R δ):(m.bind k1).bind k2=m.bind λb S=>(k1 b S).bind k2:=by cases m<;>rfl
noncomputable def AM(nt:Nat)(a:Db)(ρ:Rho):Rho:=List.replicate nt none++a.map λi=>(ρ[i]?).join
open Classical in
def yG(gf:↑24)(cf:AZ)(ef:AX)(ρb:Rho)(gs:V0):List MV->Sto->R (List MV)
 |[],S=>.ok [] S
 |d::ds,S=>(noX (gf d ρb S)).bind λm S0=>(noX (cf m S0)).bind λk S1=>
  if k=true then(noX (ef m S1)).bind λr u=>(iO r u).bind λy q=>if stay gs q then(yG gf cf ef ρb gs ds q).bind λout v=>.ok (y::out) v else .no
  else if stay gs S1 then yG gf cf ef ρb gs ds S1 else .no
theorem Ir{K:P0}(q:Slots K α H ρ σ)(nt)(idx)(τ)(a:τ.length=nt):Slots K α H (AM nt idx ρ) (τ++GR σ idx):=by
 refine⟨by unfold AM;rw[lA,lA,rG,lM0,Č,a],λi d e=>?_⟩;unfold AM at e;by_cases hi:i<nt
 .rw[â (by rw[Č];exact hi),List.getElem?_replicate]at e;split at e<;>cases e
 .rw[è (by rw[Č];lia),Č,ë]at e
  cases z:idx[i - nt]? with
  |none=>rw[z]at e;cases e
  |some k=>
   rw[z]at e;have b:(ρ[k]?).join=some d:=å e
   cases c:ρ[k]? with
   |none=>rw[c]at b;cases b
   |some o=>
    rw[c]at b;subst b;refine(q.slot k d c).a λv h j=>?_;refine Z8 v ?_ j;rw[è #[0],a];unfold GR;rw[ë,z];show some (σ[k]?).join=some _;rw[h];rfl
def Keeps(nt:Nat)(σ:St)(Q:St->Hp->Prop):St->Hp->Prop:=λa H'=>a.length=σ.length->(∀j,nt<=j->a[j]? =σ[j]?)->Q a H'
def Zr(nt:Nat)(X:Cx)(W:XW)(tg:Expr)(gf:↑24):Prop:=
 ∃t,PG X tg t/\ ∀α a S σ H d v Q,Wd X.g α S H->Slots X.K α H a σ->Den X.K α H d v->Post X.g W α H (gf d a S) (Keeps nt σ Q)->t v σ H Q
section
variable{X:Cx}{W:XW}{pos:Pos}{nt:Nat}
theorem nN(i)(a:X.N.Nodup)(hi:X.N[i]? =some x:=by rfl)(b:Loc ↑23 x:=by first |exact Or.inl rfl|exact Or.inr rfl)(e:Q0 X x:=by first |exact .inl rfl|exact .inr rfl|assumption)(h:i<nt:=by decide):
  Zr nt X W (.Name x pos) (xF i):=(Z8 _ (Dl a hi b e) (λα m S σ H d v Q c sl k q=>Post.here q c (sl.set k) (by rw[ą]) λj n=>by rw[Ĉ #[0]]))
end
abbrev TL(X:Cx)(W:XW)(a:O0)(f:AZ):Prop:=Jd X W (Id X a) f
section
variable{X:Cx}{W:XW}{iter:Expr}{c:Expr}{pos:Pos}
def CY:TL X W [] (λ_ S=>.ok true S):=(Z8 _ (λ_ _ _ H _ I h=>wpAny_tests_nil (Z8 H I h)) (λα b S σ H Q a sl q=>q.here a rfl))
def uS(h:AR X W c tf):TL X W [c] tf:=let ⟨t,h,k⟩:=h;(Z8 t (λpins s σ H Q I q=>wpAny_tests_one (h pins s σ H Q I q)) k)
open Classical in
def TN{C:Cx->Prop}{ab tg:Expr}{ag:O0}{sc:Scope}{ak:Rho->Sto->R Wk}{cf:AZ}{ef:AX}{gf:↑24}(aj:Scope)(N:C0)(T:C0)(a:Db)
  (hi:Jd X W (Tx C X tg iter) ak) (hCx: ∀c z O fp pins σ,Inv X pins σ O z->C (zY X sc T a c z O fp))
  (hg: ∀C z B fp,([]++T++a.map λi=>(N[i]?).getD Str.empty).Nodup->Zr T.length (zY X sc T a C z B fp) W0 tg gf)
  (hc: ∀C z B fp,TL (zY X sc T a C z B fp) W0 ag cf) (he: ∀C z B fp,zR (zY X sc T a C z B fp) W0 ab ef)
  (e1:↑23=aj:=by rfl) (e2:X.N=N:=by rfl) (hB:AV aj N sc a=true:=by decide+kernel) (hN:([]++T++a.map λi=>(N[i]?).getD Str.empty).Nodup:=by decide+kernel)
  (hs: ∀y,foldedSetIterable iter X.env y=pure y:=by intro _;rfl):
  Jd (β:=Er) (τ:=V) X W (λt=>PE X (.ListComp ab [⟨tg,iter,ag,0⟩] sc pos) t/\PU X (.ListComp ab [⟨tg,iter,ag,0⟩] sc pos) t) (λρ S=>(ak ρ S).bind λk S1=>if k.ds.length<1000000 then(yG gf cf ef (AM T.length a ρ) k.gs k.ds S1).bind λout G=>.ok (.new out) G else .no):=by
 obtain⟨wi,hi,ki⟩:=hi;subst e1 e2;have az:(1000000:Nat)<sizeLine:=by rw[ô];decide
 have ar: ∃t,(∀C z B fp,PG (zY X sc T a C z B fp) tg t)/\ ∀α ρ S σ H d v Q,Wd X.g α S H->Slots X.K α H ρ σ->Den X.K α H d v->Post X.g W0 α H (gf d ρ S) (Keeps T.length σ Q)->t v σ H Q:=by refine⟨λv σ H Q=> ∃α ρ S d,Wd X.g α S H/\Slots X.K α H ρ σ/\Den X.K α H d v/\Post X.g W0 α H (gf d ρ S) (Keeps T.length σ Q),λC z B fp pins s σ H v u Q I r ⟨α,ρ,S,d,h1,h2,h3,h4⟩=>?_,λα ρ S σ H d v Q h1 h2 h3 h4=>⟨α,ρ,S,d,h1,h2,h3,h4⟩⟩;obtain⟨t,ht,kt⟩:=hg C z B fp hN;exact ht pins s σ H v u Q I r (kt α ρ S σ H d v Q h1 h2 h3 h4)
 obtain⟨a0,ah,kg⟩:=ar;refine⟨_,⟨Us T a hi hCx hB ah (λC z B fp=>(ú (hc C z B fp)).1) (λC z B fp=>(ú (he C z B fp)).1) hs,Uu T a hi hCx hB ah (λC z B fp=>(ú (hc C z B fp)).1) (λC z B fp=>(ú (he C z B fp)).1) hs⟩,λα ρ S σ H Q wd sl q=>ki α ρ S σ H _ wd sl (q.bind λJ k S1 ao B e1 x1 w1 d1 q1=>?_)⟩;obtain⟨P,hP⟩:=d1;split at q1
 .rename_i av
  refine⟨λn m ys O=>m=k.ds.length - n/\n<=k.ds.length/\ys.length<=n/\ ∃w G,Ext α H w O/\Wd X.g w G O/\P w G O/\ ∃h,DenL X.K w O h ys/\Post X.g W α H ((yG gf cf ef (AM T.length a ρ) k.gs (k.ds.drop n) G).bind λo A=>.ok (Er.new (h++o)) A) Q,
   ⟨_,rfl,zero_le _,à _,ao,S1,x1,w1,hP.here,[],yN,by simpa using q1⟩,?_⟩
  rintro n m ys O ⟨rfl,hn,hy,w,G,x2,w2,p2,h,l,q2⟩;obtain⟨i1,i2⟩:=hP.it n w G O p2 w2;refine⟨by omega,?_⟩;by_cases E:n<k.ds.length
  .obtain⟨go,yl⟩:=i1 E;refine .inr ⟨go,by omega,λv H3 y τ U=>?_⟩;obtain⟨x3,w3,p3,d,hd,dv⟩:=yl v H3 y;have ae:k.ds.drop n=d::k.ds.drop (n+1):=by rw[List.drop_eq_getElem_cons E];have:=gE E;rw[hd]at this;rw[<-å this]
   rw[ae]at q2;unfold yG at q2;have au:=Ir (sl.ext (x2.trans x3)) T.length a τ U;refine kg w (AM T.length a ρ) G _ H3 d v _ w3 au dv ?_;rw[R.bind_assoc]at q2;refine q2.bindY (x2.trans x3) λY ai S4 af H4 e4 x4 w4 s4 q4 Z aq=>⟨⟨Y.take T.length,?_,?_⟩,λC z fp=>?_⟩
   .refine ext_getElem? λj=>?_;have ay:Y.length=T.length+a.length:=by rw[Z,lA,rG,U]
    by_cases hj:j<T.length
    .rw[â (by rw[lT];omega),ĭ hj]
    .rw[aq j (by omega),è (by omega),è (by rw[lT];omega),U,lT,min_eq_left (by omega)]
   .rw[lT,Z,lA,rG,U];omega
   have L:Ext α H af H4:=(x2.trans x3).trans x4;have p4: ∀p M H5,Ext af H4 p H5->Wd X.g p M H5->stay k.gs M->P p M H5:=λp M H5 F w5 s5=>hP.stays w G H3 p M H5 p3 (x4.trans F) w5 s5;rw[R.bind_assoc]at q4;refine(ú (hc C z B fp)).2 af ai S4 Y H4 _ w4 s4 (q4.bindY L λb5 ax M p H5 e5 F w5 d5 q5=>?_);cases d5
   cases b5 with
   |false=>
    rw[iN0 xF0]at q5 ⊢;split at q5
    .rename_i aa;exact⟨k.ds.length - (n+1),by omega,rfl,E,by omega,p,M,L.trans F,w5,p4 p M H5 F w5 aa,h,(l.ext (x3.trans x4)).ext F,q5⟩
    .exact q5.elim
   |true=>
    rw[iP rfl,R.bind_assoc]at q5;rw[iP rfl];refine(ú (he C z B fp)).2 p ai M Y H5 _ w5 (s4.ext F) (q5.bindY (L.trans F) λy6 r6 S6 aw H6 e6 x6 w6 d6 q6=>?_);obtain⟨d',A,α',e7,x7,y7,w7,de⟩:=tU w6 x6 d6;rw[e7]at q6;have q6:Post X.g W α H ((if stay k.gs A then(yG gf cf ef (AM T.length a ρ) k.gs (k.ds.drop (n+1)) A).bind λout S4=>.ok (d'::out) S4 else .no).bind λo A=>.ok (Er.new (h++o)) A) Q:=q6;split at q6
    .rename_i aa;refine⟨k.ds.length - (n+1),by omega,rfl,E,by rw[lA,lS];omega,α',A,(L.trans F).trans x7,w7,p4 α' A H6 (F.trans x7) w7 aa,h++[d'],((l.ext (x3.trans x4)).ext (F.trans x7)).append (yD de yN),?_⟩;rw[R.bind_assoc]at q6;have e8:(λ(o:R0) (A:Sto)=>R.ok (Er.new ((h++[d'])++o)) A)=(λ(b:R0) S=>(R.ok (d'::b) S).bind λo A=>.ok (Er.new (h++o)) A):=by funext o A;show _=R.ok (Er.new (h++(d'::o))) A;rw[aA];rfl
     rw[e8];exact q6
    .exact q6.elim
  .have e:n=k.ds.length:=by omega
   subst e;rw[List.drop_length]at q2;have q3:Post X.g W α H (.ok (Er.new (h++[])) G) Q:=q2;rw[aN]at q3;exact .inl ⟨i2 (à _),λD hD=>(q3.shift x2).newl w2 hD l⟩
 .exact q1.elim
open Classical in
def pL{e tg:Expr}{c:O0}{m:Scope}{j:Rho->Sto->R Wk}{cf:AZ}{ef:AX}{gf:↑24}(b:Scope)(N:C0)(T:C0)(a:Db)
  (hi:WI X W tg iter j) (hcalm:X.calm=true)
  (hg: ∀C d q fp,([]++T++a.map λi=>(N[i]?).getD Str.empty).Nodup->Zr T.length (zY X m T a C d q fp) W0 tg gf)
  (hc: ∀C d q fp,TL (zY X m T a C d q fp) W0 c cf) (he: ∀C d q fp,zR (zY X m T a C d q fp) W0 e ef)
  (e1:↑23=b:=by rfl) (e2:X.N=N:=by rfl) (hB:AV b N m a=true:=by decide+kernel) (hN:([]++T++a.map λi=>(N[i]?).getD Str.empty).Nodup:=by decide+kernel)
  (hs: ∀y,foldedSetIterable iter X.env y=pure y:=by intro _;rfl):
  zR X W (.ListComp e [⟨tg,iter,c,0⟩] m pos) (λρ S=>(j ρ S).bind λk S1=>if k.ds.length<1000000 then(yG gf cf ef (AM T.length a ρ) k.gs k.ds S1).bind λout u=>.ok (.new out) u else .no):=let ⟨t,h,k⟩:=(TN b N T a hi (λ_ _ _ _ _ _ _=>hcalm) hg hc he e1 e2 hB hN hs);⟨t,h.1,k⟩
open Classical in
def TQ{x:Str}{pos' b:Pos}(i:Nat)(s:X.N.Nodup){m tg:Expr}{c:O0}{n:Scope}{o:Rho->Sto->R Wk}{cf:AZ}{ef:AX}{gf:↑24}(j:Scope)(N:C0)(T:C0)(a:Db)
  (hi:WI X W tg iter o) (hcalm:X.calm=true)
  (hg: ∀C d v fp,([]++T++a.map λi=>(N[i]?).getD Str.empty).Nodup->Zr T.length (zY X n T a C d v fp) W0 tg gf)
  (hc: ∀C d v fp,TL (zY X n T a C d v fp) W0 c cf) (he: ∀C d v fp,zR (zY X n T a C d v fp) W0 m ef)
  (z:↑23=j:=by rfl) (e2:X.N=N:=by rfl) (hB:AV j N n a=true:=by decide+kernel) (hN:([]++T++a.map λi=>(N[i]?).getD Str.empty).Nodup:=by decide+kernel)
  (hs: ∀y,foldedSetIterable iter X.env y=pure y:=by intro _;rfl)
  (hi2:X.N[i]? =some x:=by rfl) (hx:Loc ↑23 x:=by first |exact Or.inl rfl|exact Or.inr rfl)
  (hsw:swapsWith (.ListComp m [⟨tg,iter,c,0⟩] n pos) (some (.Name x pos')) b.line X.env=pure true:=by with_unfolding_all rfl) (hf:Q0 X x:=by first |exact .inl rfl|exact .inr rfl|assumption):
  LN X W (.Assign [.Name x pos'] (.ListComp m [⟨tg,iter,c,0⟩] n pos) b) (λρ S=>((o ρ S).bind λk S1=>if k.ds.length<1000000 then(yG gf cf ef (AM T.length a ρ) k.gs k.ds S1).bind λout G=>.ok (.new out) G else .no).bind (JH ρ i)):=by
 obtain⟨t,h,k⟩:=(TN j N T a hi (λ_ _ _ _ _ _ _=>hcalm) hg hc he z e2 hB hN hs)
 refine⟨_,h.2 i x pos' b s hi2 hx hf hsw,λα ρ S σ H D K sl q=>k α ρ S σ H _ K sl (q.expr λu r S1 E v e w A B p=>?_)⟩;obtain⟨O,M,α',z,F,J,I,L⟩:=tU A w B;unfold JH at p;rw[z]at p;exact p _ α' v F I (((sl.ext w).ex0 J).set L)
end
mutual
def lo(n:Nat):MV->Prop
 |.loc l=>l<n
 |.tup ds=>DI n ds
 |.scr ds=>DI n ds
 |.obj _ _ ds=>DI n ds
 |_=>True
def DI(n:Nat):List MV->Prop
 |[]=>True
 |d::ds=>lo n d/\DI n ds
end
def loO(n:Nat):MO->Prop
 |.lst ds=>DI n ds
 |.dic kvs=> ∀p∈kvs,lo n p.1/\lo n p.2
 |.ins _ fs=> ∀p∈fs,lo n p.2
 |.rcd _ fs=> ∀p∈fs,lo n p.2
 |.fdc kvs=> ∀p∈kvs,lo n p.1/\lo n p.2
section
variable{K:P0}{α t:B9}{H:Hp}
mutual
theorem Den.back: ∀{d:MV}{v:V},Den K (α++t) H d v->lo α.length d->Den K α H d v
 |.non,_,q,_=>by cases mU q;exact pH
 |.bl _,_,q,_=>by cases rM q;exact xU _
 |.int _,_,q,_=>by cases xI q;exact yU _
 |.str _,_,q,_=>by cases kS q;exact nI _
 |.typ _,_,q,_=>by cases mV q;exact Ds _
 |.obj c ns ds,_,q,h=>by obtain⟨a,C,B,vs,o,rfl,e,u,z,m,l⟩:=iK q;exact Uy e u z m (DenL.back l (by unfold lo at h;exact h))
 |.loc l,_,q,h=>by
  obtain⟨a,rfl,e⟩:=aY q;have m:l<α.length:=by unfold lo at h;exact h
  rw[â m]at e;exact pI e
 |.tup ds,_,q,h=>by obtain⟨a,vs,rfl,s,l⟩:=wV q;exact rL s (DenL.back l (by unfold lo at h;exact h))
 |.scr ds,_,q,h=>by obtain⟨a,vs,rfl,s,l⟩:=iL q;exact Dt s (DenL.back l (by unfold lo at h;exact h))
theorem DenL.back: ∀{ds:R0}{vs:List V},DenL K (α++t) H ds vs->DI α.length ds->DenL K α H ds vs
 |[],_,q,_=>by rw[q.isnil];exact yN
 |d::ds,_,q,h=>by obtain⟨v,r,rfl,a,l⟩:=q.uncons;unfold DI at h;exact yD (Den.back a h.1) (DenL.back l h.2)
end
mutual
theorem Den.lo: ∀{d:MV}{v:V},Den K α H d v->lo α.length d
 |.non,_,q=>by unfold M.lo;trivial
 |.bl _,_,q=>by unfold M.lo;trivial
 |.int _,_,q=>by unfold M.lo;trivial
 |.str _,_,q=>by unfold M.lo;trivial
 |.typ _,_,q=>by unfold M.lo;trivial
 |.obj c ns ds,_,q=>by obtain⟨a,C,u,vs,o,rfl,e,m,B,z,l⟩:=iK q;unfold M.lo;exact DenL.lo l
 |.loc l,_,q=>by obtain⟨a,rfl,e⟩:=aY q;unfold M.lo;exact(gS.mp e).1
 |.tup ds,_,q=>by obtain⟨a,vs,rfl,s,l⟩:=wV q;unfold M.lo;exact DenL.lo l
 |.scr ds,_,q=>by obtain⟨a,vs,rfl,s,l⟩:=iL q;unfold M.lo;exact DenL.lo l
theorem DenL.lo: ∀{ds:R0}{vs:List V},DenL K α H ds vs->DI α.length ds
 |[],_,q=>by unfold DI;trivial
 |d::ds,_,q=>by obtain⟨v,r,rfl,a,l⟩:=q.uncons;unfold DI;exact⟨Den.lo a,DenL.lo l⟩
end
def DenK.back: ∀{fs gs},DenK K (α++t) H fs gs->(∀p∈fs,M.lo α.length p.1/\M.lo α.length p.2)->DenK K α H fs gs:=λb=>by
 induction b with
 |nil=>exact(λ_=>.nil)
 |cons k a l ih=>exact(λh=>.cons k (a.back (h _ mF0).2) (ih λp c=>h p (mO _ c)))
def KeyD.lo(h:KeyD k k'):M.lo n k:=by
 unfold KeyD at h;split at h
 .unfold M.lo;trivial
 .unfold M.lo;trivial
 .exact h.elim
def DenK.lo: ∀{fs gs},DenK K α H fs gs-> ∀p∈fs,M.lo α.length p.1/\M.lo α.length p.2:=λb=>by
 induction b with
 |nil=>exact λp h=>by simp at h
 |cons k a l ih=>exact λp h=>(mC.mp h).elim (λe=>by subst e;exact⟨k.lo,a.lo⟩) (ih p)
def DenN.back: ∀{fs xs},DenN K (α++t) H fs xs->(∀p∈fs,M.lo α.length p.1/\M.lo α.length p.2)->DenN K α H fs xs:=λb=>by
 induction b with
 |nil=>exact(λ_=>.nil)
 |cons k e a d r l ih=>exact(λh=>.cons k e (a.back (h _ mF0).1) (d.back (h _ mF0).2) r (ih λp c=>h p (mO _ c)))
def DenN.lo: ∀{fs xs},DenN K α H fs xs-> ∀p∈fs,M.lo α.length p.1/\M.lo α.length p.2:=λb=>by
 induction b with
 |nil=>exact λp h=>by simp at h
 |cons k e a d r l ih=>exact λp h=>(mC.mp h).elim (λz=>by subst z;exact⟨a.lo,d.lo⟩) (ih p)
def DenF.back: ∀{fs gs},DenF K (α++t) H fs gs->(∀p∈fs,M.lo α.length p.2)->DenF K α H fs gs:=λb=>by
 induction b with
 |nil=>exact(λ_=>.nil)
 |cons a l ih=>exact(λh=>.cons (a.back (h _ mF0)) (ih λp c=>h p (mO _ c)))
def DenF.lo: ∀{fs gs},DenF K α H fs gs-> ∀p∈fs,M.lo α.length p.2:=λb=>by
 induction b with
 |nil=>exact λp h=>by simp at h
 |cons a l ih=>exact λp h=>(mC.mp h).elim (λe=>by subst e;exact a.lo) (ih p)
def ObD.back(q:ObD g (α++t) H a o)(h:loO α.length o):ObD g α H a o:=by
 cases o with
 |lst ds=>refine q.a λd b l=>?_;exact Z8 d b (l.back h)
 |dic ds=>
  rcases q with⟨d,b,l⟩|⟨d,b,l⟩
  .exact .inl ⟨d,b,l.back h⟩
  .exact .inr (Z8 d b (l.back h))
 |ins c fs=>refine q.b λC e m l r=>?_;exact Z3 C e m (l.back h) r
 |rcd c fs=>refine q.l λC i e k=>k.e λm b l=>?_;exact Y3 C i e m b (l.back h)
 |fdc kvs=>refine q.d λj xs b l=>?_;exact Z0 j xs b (l.back h)
def ObD.lo(q:ObD g α H a o):loO α.length o:=by
 cases o with
 |lst ds=>refine q.a λd b l=>?_;exact l.lo
 |dic ds=>
  rcases q with⟨d,b,l⟩|⟨d,b,l⟩
  .exact l.lo
  .exact l.lo
 |ins c fs=>refine q.b λC e m l r=>?_;exact l.lo
 |rcd c fs=>refine q.l λC h e j=>j.e λm b l=>?_;exact l.lo
 |fdc kvs=>refine q.d λi xs b l=>?_;exact l.lo
end
def Mv(S a:Sto):Prop:=↑0<=a.length/\ ∀l,l<↑0->a[l]? =S[l]? \/ ∃o,a[l]? =some o/\loO ↑0 o
open Classical in
noncomputable def dY(S:Sto)(r:Er)(a:Sto):R Er:=
 if Mv S a then match r with
  |.val (.loc l)=>if l<S.length then .ok r (a.take S.length)else match a[l]? with
   |some (.lst ds)=>if DI S.length ds then .ok (.new ds) (a.take S.length)else .ok r a
   |_=>.ok r a
  |.val d=>if lo S.length d then .ok r (a.take S.length)else .ok r a
  |.new ds=>if DI S.length ds then .ok r (a.take S.length)else .ok r a
 else .ok r a
theorem TR(G:Ext α H α1 H1)(J:Wd g α1 S1 H1)(P: ∃t,α2=α1++t)(Z:Ext α H α2 H1)(Q:Ext α2 H1 α3 H3)(n:Wd g α3 S3 H3)(d:DenE g.K H1 α3 H3 r v):
  ∃r' S' α',dY S1 r S3=.ok r' S'/\Ext α H α' H3/\Wd g α' S' H3/\DenE g.K H α' H3 r' v:=by
 have i:=Z.trans Q;have c:=d.back λb h=>G.free h;unfold dY;by_cases F:Mv S1 S3
 .rw[iP F];obtain⟨t,B⟩: ∃t,α3=α1++t:=by obtain⟨t,e⟩:=P;obtain⟨u,T⟩:=Q.pre;exact⟨_,by rw[T,e,aA]⟩
  have C:=J.len;have p:Ext α H α1 H3:=⟨⟨G.pre,i.tup,i.frz⟩,G.new,i.keep,i.has⟩
  have s:Wd g α1 (S3.take S1.length) H3:=by
   refine⟨by rw[lT,C,min_eq_left F.1],J.nd,λl a o A y=>?_⟩;have j:l<S1.length:=by rw[<-C];exact(gS.mp A).1
   rw[ĭ j]at y;have q:=n.obj l a o (by rw[B,â (by rw[C];exact j)];exact A) y;rw[B]at q;refine q.back ?_;rcases F.2 l j with e|⟨o',e,lo'⟩
   .rw[e]at y;exact(J.obj l a o A y).lo
   .rw[y]at e;cases e;rw[C];exact lo'
  have k: ∀d,lo S1.length d->Den g.K α3 H3 d v->DenE g.K H α1 H3 _ v:=λd U q=>.val ((B▸q:Den g.K _ H3 d v).back (by rw[C];exact U))
  cases r with
  |new O=>
   dsimp only;split
   .rename_i j;obtain⟨⟨b,D,rfl,A,y,W⟩,Y⟩:=c;exact Y6 _ _ (α1) rfl p s (ZB b D rfl A (λz=>y (by rw[B];exact õ _ z)) ((B▸W:DenL g.K _ H3 O D).back (by rw[C];exact j))) Y
   .exact(ZY _ _ (α3) rfl i n c)
  |val mv=>
   have w:Den g.K α3 H3 mv v:=c.1
   cases mv with
   |loc l=>
    dsimp only;split
    .rename_i j;exact ZY _ _ (α1) rfl p s (k _ (by unfold lo;exact j) w)
    .rename_i j;refine(aY w).a λa R M=>?_;subst R;split
     .rename_i O hS;split
      .rename_i N;refine(n.obj l a _ M hS).a λD A y=>?_
       have E:a∉α1:=λz=>by
        obtain⟨m,S⟩:=getElem?_of_mem z;have L:=(gS.mp S).1;have I:α3[m]? =some a:=by rw[B,â L];exact S
        obtain⟨u1,X⟩:=gS.mp I;obtain⟨u2,e2⟩:=gS.mp M;have:=(getElem_inj n.nd).mp (X.trans e2.symm)
        lia
       refine Y6 _ _ (α1) rfl p s (ZB a D rfl A E ((B▸y:DenL g.K _ H3 O D).back (by rw[C];exact N))) (λb e=>?_);cases e;rcases i.new a (î M)with z|z
       .obtain⟨u,eu⟩:=G.pre;exact absurd (by rw[eu];exact õ _ z) E
       .exact z
      .exact(ZY _ _ (α3) rfl i n c)
     .exact(ZY _ _ (α3) rfl i n c)
   |non=>dsimp only;split;(· rename_i j;exact ZY _ _ (α1) rfl p s (k _ j w));(· exact ZY _ _ (α3) rfl i n c)
   |bl b=>dsimp only;split;(· rename_i j;exact ZY _ _ (α1) rfl p s (k _ j w));(· exact ZY _ _ (α3) rfl i n c)
   |int b=>dsimp only;split;(· rename_i j;exact ZY _ _ (α1) rfl p s (k _ j w));(· exact ZY _ _ (α3) rfl i n c)
   |str b=>dsimp only;split;(· rename_i j;exact ZY _ _ (α1) rfl p s (k _ j w));(· exact ZY _ _ (α3) rfl i n c)
   |typ b=>dsimp only;split;(· rename_i j;exact ZY _ _ (α1) rfl p s (k _ j w));(· exact ZY _ _ (α3) rfl i n c)
   |obj b b' b''=>dsimp only;split;(· rename_i j;exact ZY _ _ (α1) rfl p s (k _ j w));(· exact ZY _ _ (α3) rfl i n c)
   |tup b=>dsimp only;split;(· rename_i j;exact ZY _ _ (α1) rfl p s (k _ j w));(· exact ZY _ _ (α3) rfl i n c)
   |scr b=>dsimp only;split;(· rename_i j;exact ZY _ _ (α1) rfl p s (k _ j w));(· exact ZY _ _ (α3) rfl i n c)
 .rw[iN0 F];exact ZY _ _ (α3) rfl i n c
def Ag(g:Gm)(n:Nat)(F:↑25):Sp:=λb H Q _=> ∃α S a,Wd g α S H/\DenL g.K α H a b/\a.length=n/\Post g W0 α H (F a S) Q
def zQ(n:Nat)(F:↑25)(rs:List Er)(S:Sto):R Er:=if rs.length=n then(noX (F (zP rs S).1 (zP rs S).2)).bind λr a=>dY S r a else .no
section
variable{X:Cx}{pos:Pos}
def QS(d:Ext α H α1 H1)(b:Wd X.g α1 S1 H1)(e:ArgsE X.K H α1 H1 rs vs)(q:Post X.g W α H (zQ n F rs S1) Q):
  Ag X.g n F vs H1 Q E0:=by
 unfold zQ at q;split at q
 .rename_i w;refine(tT b d e).elim λa G=>G.k λB u A m=>?_;refine ZY a _ _ A m (by rw[CV];exact w) ?_
  cases z:F (zP rs S1).1 (zP rs S1).2 with
  |ok r S3=>
   rw[z]at q;intro v y o i C s;refine(TR d b u.pre B i C s).n λD E α' k j p h=>?_;have q:Post X.g W α H (dY S1 r S3) Q:=q;rw[k]at q;exact q v α' o j p h
  |exc c fs S3=>rw[z]at q;exact q.elim
  |no=>rw[z]at q;exact q.elim
 .exact q.elim
end
noncomputable def yA(N:C0)(ds:R0):Rho:=ds.map some++List.replicate (N.length - ↑12) none
noncomputable def yE:R Fl->R Er
 |.ok (.next _) S=>.ok (.val .non) S
 |.ok (.ret r) S=>.ok r S
 |.exc c fs S=>.exc c fs S
 |_=>.no
def BA{K:P0}(l:DenL K α H ds vs):Slots K α H (yA N ds) (start N vs):=by
 have a:=l.length;refine⟨?_,λi d e=>?_⟩
 .unfold start yA;rw[lA,lA,lM0,lM0,Č,Č,a]
 .unfold yA at e;by_cases hi:i<↑12
  .rw[â (by simpa using hi),ë]at e
   cases z:ds[i]? with
   |none=>rw[z]at e;cases e
   |some d'=>
    rw[z]at e;refine(l.at z).a λv b c=>?_;have h:=å (å e);subst h;refine Z8 v ?_ c;unfold start;rw[â (by rw[lM0,a];exact hi),ë,b];rfl
  .rw[è (by simpa using hi),List.getElem?_replicate]at e;split at e<;>cases e
section
variable{K:P0}
def P4{st:Stmt}(Fb)(F:Fun K x qual st f fd)(j:FnScope N ps (zE st))
  (hbody: ∀ d  A  outer  s  H  E ,Room k (A.deeper (envOfC qual (zE st) ↑3 f d))->
   uP (JF EY P w K mg base N qual (zE st) f d A outer s H E).nox W0 (wK st) Fb):
  FnOk P w K mg base EY (k+1) f fd ps (Ag ⟨K,mg,P,w⟩ ps.length λds S=>yE (Fb (yA N ds) S)):=by
 refine F.ok j (λm H Q E h=>?_) (λd A outer s H m Q E i h=>?_)
 .refine h.n λα S ds _ l e _=>?_;rw[l.length,e]
 .refine h.n λα S ds n l e q=>?_;refine(hbody d A outer s H E i).a λt u p=>?_;refine Z8 t u (p α _ S _ H _ n (BA l) ?_);dsimp only at q
  cases z:Fb _ S with
  |ok fl S'=>
   rw[z]at q
   cases fl with
   |next ρ=>exact λσ α' H' a b y=>q .non α' H' a b (DenE.val pH)
   |ret r=>exact λv α' H' a b o=>q v α' H' a b o
   |brk ρ=>exact q.elim
   |cont ρ=>exact q.elim
  |exc c fs S'=>rw[z]at q;exact λα' H' a b=>q α' H' a b
  |no=>rw[z]at q;exact q
end
inductive Vw where
 |fl (v:V)|tp (ds:R0)|ls (ds:R0)
noncomputable def cE(S:Sto):Er->Option (List MV)
 |.new ds=>some ds
 |.val (.scr ds)=>some ds
 |.val (.loc l)=>match S[l]? with
  |some (.lst ds)=>some ds
  |_=>none
 |_=>none
def OJ(S:Sto):Er->Option Vw
 |.val .non=>some (.fl .non)
 |.val (.bl b)=>some (.fl (.bl b))
 |.val (.int i)=>some (.fl (.int i))
 |.val (.str x)=>some (.fl (.str (kX x)))
 |.val (.tup ds)=>some (.tp ds)
 |.val (.typ _)=>none
 |.val (.obj _ _ _)=>none
 |r=>(cE S r).map .ls
noncomputable def rE(e:MV->MV->Option Bool):List MV->List MV->Option (List Bool)
 |d::ds,f::fs=>(e d f).bind λk=>(rE e ds fs).map (k::·)
 |_,_=>some []
def Lc(e:MV->MV->Option Bool):Vw->Vw->Option Bool
 |.fl x,.fl y=>some (Ul x y)
 |.tp ds,.tp es=>(rE e ds es).map λbs=>bs.all id&&ds.length==es.length
 |.ls ds,.ls es=>if ds.length=es.length then(rE e ds es).map λbs=>bs.all id else some false
 |_,_=>some false
theorem EO(e)(ds es):Lc e (.tp ds) (.tp es)=(rE e ds es).map λbs=>bs.all id&&↑12==es.length:=rfl
theorem TU(e)(ds es):Lc e (.ls ds) (.ls es)=if ↑12=es.length then(rE e ds es).map λbs=>bs.all id else some false:=rfl
def eqv(S:Sto):Nat->MV->MV->Option Bool
 |0,_,_=>none
 |n+1,a,b=>(OJ S (.val a)).bind λx=>(OJ S (.val b)).bind λy=>Lc (eqv S n) x y
def OP(S:Sto)(n:Nat)(a b:Er):Option Bool:=(OJ S a).bind λx=>(OJ S b).bind λy=>Lc (eqv S n) x y
section
variable{X:Cx}{α:B9}{S:Sto}{H:Hp}
def vT{K:P0}(i:g.K=K)(j:Wd g α S H)(e:cE S r=some ds)(d:DenX K α H r x): ∃a vs,x=.ref a/\SqL K H a vs/\DenL K α H ds vs:=by
 subst i;unfold cE at e;split at e
 .cases e;refine d.g λb vs m h _ l=>?_;subst m;exact Z3 b vs rfl (.of h) l
 .cases e;refine(LI d).b λa vs o s l=>?_;subst o;exact Z3 a vs rfl s.l l
 .rename_i n;refine(aG d).a λa p h=>?_;subst p;split at e
  .rename_i es k;cases e;refine(j.obj n a _ h k).a λvs c l=>?_;exact Z3 a vs rfl (.of c) l
  .cases e
 .cases e
def vU(e:OJ S r=some (.fl y))(d:DenX X.K α H r x):x=y/\tO y=true:=by
 unfold OJ at e;split at e
 .cases e;exact⟨uN d,rfl⟩
 .cases e;exact⟨vR d,rfl⟩
 .cases e;exact⟨yV d,rfl⟩
 .cases e;exact⟨bP d,rfl⟩
 .cases e
 .cases e
 .cases e
 .cases z:cE S r<;>rw[z]at e<;>cases e
def vV(e:OJ S r=some (.tp ds))(d:DenX X.K α H r x): ∃a vs,x=.ref a/\SqT X.K H a vs/\DenL X.K α H ds vs:=by
 unfold OJ at e;split at e
 .cases e
 .cases e
 .cases e
 .cases e
 .cases e;exact mW d
 .cases e
 .cases e
 .cases z:cE S r<;>rw[z]at e<;>cases e
def vW(b:↑31)(e:OJ S r=some (.ls ds))(d:DenX X.K α H r x): ∃a vs,x=.ref a/\SqL X.K H a vs/\DenL X.K α H ds vs:=by
 unfold OJ at e;split at e
 .cases e
 .cases e
 .cases e
 .cases e
 .cases e
 .cases e
 .cases e
 .cases z:cE S r with
  |none=>rw[z]at e;cases e
  |some es=>rw[z]at e;cases e;exact vT rfl b z d
theorem CZ: ∀{ds es}{bs},rE e ds es=some bs->bs.length=min ↑12 es.length
 |[],_,_,h=>by simp[rE]at h;subst h;simp
 |_::_,[],_,h=>by simp[rE]at h;subst h;simp
 |d::ds,f::fs,bs,h=>by
  unfold rE at h
  cases z:e d f with
  |none=>rw[z]at h;cases h
  |some k=>
   rw[z]at h
   cases m:rE e ds fs with
   |none=>simp[m]at h
   |some cs=>
    simp[m]at h;subst h;simp[CZ m]
theorem TV: ∀{ds es}{bs}{j}{d f},rE e ds es=some bs->ds[j]? =some d->es[j]? =some f->e d f=some (bs.getD j true)
 |[],_,_,_,_,_,h,h1,_=>by simp at h1
 |_::_,[],_,_,_,_,h,_,h2=>by simp at h2
 |d::ds,f::fs,bs,j,d',f',h,h1,h2=>by
  unfold rE at h
  cases z:e d f with
  |none=>rw[z]at h;cases h
  |some k=>
   rw[z]at h
   cases m:rE e ds fs with
   |none=>simp[m]at h
   |some cs=>
    simp[m]at h;subst h
    cases j with
    |zero=>simp at h1 h2;subst h1 h2;simpa using z
    |succ j=>simpa using TV m (by simpa using h1) (by simpa using h2)
def range_all{bs:M0}(h:bs.length=n):(List.range n).all (λj=>bs.getD j true)=bs.all id:=by
 subst h;rw[Bool.eq_iff_iff,ă,ă];constructor
 .intro h x b;obtain⟨i,hi,rfl⟩:=getElem_of_mem b;have:=h i (ø.mpr hi);simpa [ć,hi]using this
 .intro h i hi;have a:=ø.mp hi;have:=h bs[i] (Ĭ a);simpa [ć,a]using this
variable{pins:L1}{σ:St}{s:ŀ}
def FH(I:↑1)(h:SqL X.K H a xs)(h':SqT X.K H a ys):False:=by refine(I.list h).c λ_ _ i _=>?_;refine(I.tuple h').c λ_ _ pt _=>?_;refine i.g λo n e c _ _=>?_;refine pt.c λj d b _=>?_;rw[e]at d;cases d;rw[c]at b;exact absurd b (by simp)
theorem Mw(I:↑1)(r:↑31)(F: ∀d f v k,Den X.K α H d v->Den X.K α H f v->e d f=some k->k=true)
  (ha:OJ S a=some p) (hb:OJ S b=some q) (da:DenX X.K α H a x) (db:DenX X.K α H b x) (h:Lc e p q=some k):k=true:=by
 have C: ∀{ds es:R0}{vs:List V}{bs:M0},DenL X.K α H ds vs->DenL X.K α H es vs->rE e ds es=some bs->bs.all id=true:=by
  intro ds es vs bs j c z;rw[ă];intro k N;obtain⟨i,hi,rfl⟩:=getElem_of_mem N;have P:=CZ z;have B:i<ds.length:=by lia
  have D:i<es.length:=by lia
  refine(j.at (gE B)).a λv G M=>?_;refine(c.at (gE D)).a λO E L=>?_;rw[G]at E;cases E;have:=F _ _ _ _ M L (TV z (gE B) (gE D));simpa [ć,hi]using this
 cases p with
 |fl y=>
  obtain⟨rfl,A⟩:=vU ha da
  cases q with
  |fl z=>obtain⟨rfl,o⟩:=vU hb db;cases h;exact Mi A
  |tp ds=>obtain⟨a,vs,rfl,_⟩:=vV hb db;exact absurd A xF0
  |ls ds=>obtain⟨a,vs,rfl,_⟩:=vW r hb db;exact absurd A xF0
 |tp ds=>
  obtain⟨J,vs,rfl,s1,j⟩:=vV ha da
  cases q with
  |fl z=>obtain⟨rfl,o⟩:=vU hb db;exact absurd o xF0
  |tp es=>
   obtain⟨w,u,m,n,c⟩:=vV hb db;cases m;cases I.tuple_inj s1 n;rw[EO]at h
   cases z:rE e ds es with
   |none=>rw[z]at h;cases h
   |some bs=>
    rw[z]at h;cases h;show(bs.all id&&↑12==es.length)=true;rw[C j c z, <-j.length, <-c.length];simp
  |ls es=>obtain⟨w,u,m,n,c⟩:=vW r hb db;cases m;exact(FH I n s1).elim
 |ls ds=>
  obtain⟨J,vs,rfl,s1,j⟩:=vW r ha da
  cases q with
  |fl z=>obtain⟨rfl,o⟩:=vU hb db;exact absurd o xF0
  |tp es=>obtain⟨w,u,m,n,c⟩:=vV hb db;cases m;exact(FH I s1 n).elim
  |ls es=>
   obtain⟨w,u,m,n,c⟩:=vW r hb db;cases m;cases I.list_inj s1 n;rw[TU]at h;rw[iP (by rw[<-j.length, <-c.length])]at h
   cases z:rE e ds es with
   |none=>rw[z]at h;cases h
   |some bs=>rw[z]at h;cases h;exact C j c z
theorem LP(I:↑1)(a:↑31): ∀ n  d f  v  k ,Den X.K α H d v->Den X.K α H f v->eqv S n d f=some k->k=true
 |0,_,_,_,_,_,_,h=>by cases h
 |n+1,d,f,v,k,h1,h2,h=>by
  unfold eqv at h
  cases m:OJ S _ with
  |none=>rw[m]at h;cases h
  |some p=>
   cases u:OJ S _ with
   |none=>rw[m,u]at h;cases h
   |some q=>
    rw[m,u]at h;exact Mw I a (LP I a n) m u h1 h2 h
def FI(c: ∀d f x y u v k,Den X.K α H d x->Den X.K α H f y->RelV x u->RelV y v->e d f=some k->SeqAt.EqAt A s u v k)
      (l1:DenL X.K α H ds vs) (l2:DenL X.K α H es us) (r1:Vals vs its) (r2:Vals us its2) (z:rE e ds es=some bs):
  ∀j  m  (q:j<its2.toArray.size),SeqAt.EqAt A s its.toArray[j] its2.toArray[j] (bs.getD j true):=by
 intro j m q;have b:j<vs.length:=by rw[r1.length];simpa using m
 have a:j<us.length:=by rw[r2.length];simpa using q
 refine(l1.get (gE b)).a λd h w=>?_;refine(l2.get (gE a)).a λf r D=>?_;refine(r1.get (gE b)).a λu n o=>?_;refine(r2.get (gE a)).a λv p i=>?_;have B:its.toArray[j]=u:=by have:its[j]? =some (its[j]'(by simpa using m)):=gE _;rw[n]at this;simpa using(å this).symm
 have C:its2.toArray[j]=v:=by have:its2[j]? =some (its2[j]'(by simpa using q)):=gE _;rw[p]at this;simpa using(å this).symm
 rw[B,C];exact c d f _ _ u v _ w D o i (TV z h r)
theorem GV(I:↑1)(L:↑31): ∀ n  A  d f  x y  u v  k ,A.units+n<cLine->Den X.K α H d x->Den X.K α H f y->RelV x u->RelV y v->eqv S n d f=some k->SeqAt.EqAt A s u v k
 |0,_,_,_,_,_,_,_,_,_,_,_,_,_,h=>by cases h
 |n+1,A,d,f,x,y,u,v,k,hu,h1,h2,rx,ry,h=>by
  have m:A.units<cLine:=by lia
  have w:=h;unfold eqv at h
  cases M:OJ S _ with
  |none=>rw[M]at h;cases h
  |some p=>
   cases r:OJ S _ with
   |none=>rw[M,r]at h;cases h
   |some q=>
    rw[M,r]at h;have h:Lc _ p q=some k:=h;have U:=λd f x y u v k a b c Y e=>GV I L n A.in1 d f x y u v k #[0] a b c Y e
    cases p with
    |fl x'=>
     obtain⟨rfl,T⟩:=vU M h1
     cases q with
     |fl y'=>obtain⟨rfl,N⟩:=vU r h2;cases h;exact M9 rx ry T N
     |tp es=>
      obtain⟨b,O,rfl,B,o⟩:=vV r h2;cases ry;cases h;obtain⟨C,_,pt,_⟩:=I.tuple B;exact(IG rx T pt m).2.1
     |ls es=>
      obtain⟨b,O,rfl,B,o⟩:=vW L r h2;cases ry;cases h;obtain⟨C,_,E,_⟩:=I.list B;exact(QH rx T E.isList m).2.1
    |tp ds=>
     obtain⟨a,W,rfl,s1,D⟩:=vV M h1;cases rx;obtain⟨C,F,pt,_⟩:=I.tuple s1
     cases q with
     |fl y'=>obtain⟨rfl,N⟩:=vU r h2;cases h;exact(IG ry N pt m).1
     |tp es=>
      obtain⟨b,O,rfl,B,o⟩:=vV r h2;cases ry;by_cases j:a=b
      .subst j;rw[LP I L _ d f _ k h1 h2 w];exact SeqAt.EqAt.same _
      .refine(I.tuple B).c λi G Q _=>?_;rw[EO]at h
       cases z:rE _ ds es with
       |none=>rw[z]at h;cases h
       |some bs=>
        rw[z]at h;cases h;have:=SeqAt.RcAt.tuples pt Q m (FI U D o F G z);have J:=CZ z;rw[range_all (by rw[J];simp[<-F.length, <-G.length,D.length,o.length])]at this;have Z:(C.toArray.size==i.toArray.size)=(↑12==es.length):=by simp[<-F.length, <-G.length,D.length,o.length]
        rw[Z]at this;exact SeqAt.EqAt.of_refs j this
     |ls es=>
      obtain⟨b,O,rfl,B,o⟩:=vW L r h2;cases ry;cases h;refine(I.list B).c λi _ E _=>?_;exact SeqAt.EqAt.tuple_list pt E.isList m
    |ls ds=>
     obtain⟨a,W,rfl,s1,D⟩:=vW L M h1;cases rx;obtain⟨C,F,E,_⟩:=I.list s1
     cases q with
     |fl y'=>obtain⟨rfl,N⟩:=vU r h2;cases h;exact(QH ry N E.isList m).1
     |tp es=>
      obtain⟨b,O,rfl,B,o⟩:=vV r h2;cases ry;cases h;refine(I.tuple B).c λi _ pt _=>?_;exact SeqAt.EqAt.list_tuple E.isList pt m
     |ls es=>
      obtain⟨b,O,rfl,B,o⟩:=vW L r h2;cases ry;by_cases j:a=b
      .subst j;rw[LP I L _ d f _ k h1 h2 w];exact SeqAt.EqAt.same _
      .refine(I.list B).c λi G P _=>?_;rw[TU]at h;by_cases J:↑12=es.length
       .rw[iP J]at h
        cases z:rE _ ds es with
        |none=>rw[z]at h;cases h
        |some bs=>
         rw[z]at h;cases h;have:=SeqAt.RcAt.lists E.isList P.isList (by simp[<-F.length, <-G.length,D.length,o.length,J]) m (FI U D o F G z);rw[range_all (by rw[(CZ z)];simp[<-F.length,D.length,J])]at this;exact SeqAt.EqAt.of_refs j this
       .rw[iN0 J]at h;cases h;exact SeqAt.EqAt.of_refs j (SeqAt.RcAt.lists_lengths E.isList P.isList (by simpa [<-F.length, <-G.length,D.length,o.length]using J) m)
theorem Zs{C:Around->ŀ->Ł->Ł->Bool->Prop}{tr:Bool->Bool}
  (hff: ∀x y u v,RelV x u->RelV y v->tO x=true->tO y=true->C A s u v (tr (Ul x y)))
  (hfl: ∀x v l B,RelV x v->tO x=true->s.heap.IsList l B->A.units<cLine->C A s v (.ref l) (tr false)/\C A s (.ref l) v (tr false))
  (hft: ∀x v l B,RelV x v->tO x=true->s.heap.IsTuple l B->A.units<cLine->C A s v (.ref l) (tr false)/\C A s (.ref l) v (tr false))
  (hlt: ∀l b B m,s.heap.IsList l B->s.heap.IsTuple b m->A.units<cLine->C A s (.ref l) (.ref b) (tr false)/\C A s (.ref b) (.ref l) (tr false))
  (htt: ∀ l b  B m  e ,s.heap.IsTuple l B->s.heap.IsTuple b m->A.units<cLine->(∀j  Q  (D:j<m.size),SeqAt.EqAt A.in1 s B[j] m[j] (e j))->C A s (.ref l) (.ref b) (tr ((List.range (min B.size m.size)).all e&&B.size==m.size)))
  (hll: ∀ l b  B m  e ,s.heap.IsList l B->s.heap.IsList b m->B.size=m.size->A.units<cLine->(∀j  Q  (D:j<m.size),SeqAt.EqAt A.in1 s B[j] m[j] (e j))->C A s (.ref l) (.ref b) (tr ((List.range B.size).all e)))
  (hln: ∀ l b  B m ,s.heap.IsList l B->s.heap.IsList b m->(B.size !=m.size)=true->A.units<cLine->C A s (.ref l) (.ref b) (tr false))
  (I:↑1) (wd:↑31) (n)     (hu:A.units+(n+1)<cLine) (Q:DenX X.K α H a x) (D:DenX X.K α H b y) (rx:RelV x u) (ry:RelV y v) (h:OP S n a b=some k):C A s u v (tr k):=by
 have i:A.units<cLine:=by lia
 unfold OP at h
 cases O:OJ S a with
 |none=>rw[O]at h;cases h
 |some p=>
  cases w:OJ S b with
  |none=>rw[O,w]at h;cases h
  |some q=>
   rw[O,w]at h;have h:Lc _ p q=some k:=h;have Z:=λd f x y u v k a b c d' e=>GV I wd n A.in1 d f x y u v k #[0] a b c d' e
   cases p with
   |fl x'=>
    obtain⟨rfl,Y⟩:=vU O Q
    cases q with
    |fl y'=>obtain⟨rfl,P⟩:=vU w D;cases h;exact hff _ _ _ _ rx ry Y P
    |tp es=>
     obtain⟨b,T,rfl,E,r⟩:=vV w D;cases ry;cases h;refine(I.tuple E).c λF _ pt _=>?_;exact(hft _ _ _ _ rx Y pt i).1
    |ls es=>
     obtain⟨b,T,rfl,E,r⟩:=vW wd w D;cases ry;cases h;refine(I.list E).c λF _ J _=>?_;exact(hfl _ _ _ _ rx Y J.isList i).1
   |tp ds=>
    obtain⟨a,vs,rfl,s1,G⟩:=vV O Q;cases rx;obtain⟨F,L,pt,_⟩:=I.tuple s1
    cases q with
    |fl y'=>obtain⟨rfl,P⟩:=vU w D;cases h;exact(hft _ _ _ _ ry P pt i).2
    |tp es=>
     obtain⟨b,T,rfl,E,r⟩:=vV w D;cases ry;refine(I.tuple E).c λo M W _=>?_;rw[EO]at h
     cases z:rE _ ds es with
     |none=>rw[z]at h;cases h
     |some bs=>
      rw[z]at h;cases h;have:=htt _ _ _ _ _ pt W i (FI Z G r L M z);have N:=CZ z;rw[range_all (by rw[N];simp[<-L.length, <-M.length,G.length,r.length])]at this;have e3:(F.toArray.size==o.toArray.size)=(↑12==es.length):=by simp[<-L.length, <-M.length,G.length,r.length]
      rw[e3]at this;exact this
    |ls es=>
     obtain⟨b,T,rfl,E,r⟩:=vW wd w D;cases ry;cases h;refine(I.list E).c λo _ J _=>?_;exact(hlt _ _ _ _ J.isList pt i).2
   |ls ds=>
    obtain⟨a,vs,rfl,s1,G⟩:=vW wd O Q;cases rx;obtain⟨F,L,J,_⟩:=I.list s1
    cases q with
    |fl y'=>obtain⟨rfl,P⟩:=vU w D;cases h;exact(hfl _ _ _ _ ry P J.isList i).2
    |tp es=>
     obtain⟨b,T,rfl,E,r⟩:=vV w D;cases ry;cases h;refine(I.tuple E).c λo _ pt _=>?_;exact(hlt _ _ _ _ J.isList pt i).1
    |ls es=>
     obtain⟨b,T,rfl,E,r⟩:=vW wd w D;cases ry;refine(I.list E).c λo M U _=>?_;rw[TU]at h;by_cases N:↑12=es.length
     .rw[iP N]at h
      cases z:rE _ ds es with
      |none=>rw[z]at h;cases h
      |some bs=>
       rw[z]at h;cases h;have:=hll _ _ _ _ _ J.isList U.isList (by simp[<-L.length, <-M.length,G.length,r.length,N]) i (FI Z G r L M z);rw[range_all (by rw[(CZ z)];simp[<-L.length,G.length,N])]at this;exact this
     .rw[iN0 N]at h;cases h;exact hln _ _ _ _ J.isList U.isList (by simpa [<-L.length, <-M.length,G.length,r.length]using N) i
def P5(I:↑1)(m:↑31)(n)(p:A.units+(n+1)<cLine)(j:DenX X.K α H a x)(q:DenX X.K α H b y)(o:RelV x u)(i:RelV y v)(h:OP S n a b=some k):SeqAt.RcAt A s u v k:=
 Zs (tr:=id) (λ_ _ _ _ a b c d=>(Mh a b c d).1) (λ_ _ _ _ a b c d=>⟨(QH a b c d).2.2.2.1,(QH a b c d).2.2.1⟩) (λ_ _ _ _ a b c d=>⟨(IG a b c d).2.2.2.1,(IG a b c d).2.2.1⟩)
  (λ_ _ _ _ a b c=>⟨SeqAt.RcAt.list_tuple a b c,SeqAt.RcAt.tuple_list b a c⟩) (λ_ _ _ _ _ a b c d=>SeqAt.RcAt.tuples a b c d) (λ_ _ _ _ _ a b c d e=>SeqAt.RcAt.lists a b c d e) (λ_ _ _ _ a b c d=>SeqAt.RcAt.lists_lengths a b c d)
  I m n p j q o i h
def P6(I:↑1)(m:↑31)(n)(p:A.units+(n+1)<cLine)(j:DenX X.K α H a x)(q:DenX X.K α H b y)(o:RelV x u)(i:RelV y v)(h:OP S n a b=some k):SeqAt.RcNeAt A s u v (!k):=
 Zs (λ_ _ _ _ a b c d=>(Mh a b c d).2) (λ_ _ _ _ a b c d=>⟨(QH a b c d).2.2.2.2.2,(QH a b c d).2.2.2.2.1⟩) (λ_ _ _ _ a b c d=>⟨(IG a b c d).2.2.2.2.2,(IG a b c d).2.2.2.2.1⟩)
  (λ_ _ _ _ a b c=>⟨SeqAt.RcNeAt.list_tuple a b c,SeqAt.RcNeAt.tuple_list b a c⟩) (λ_ _ _ _ _ a b c d=>SeqAt.RcNeAt.tuples a b c d) (λ_ _ _ _ _ a b c d e=>SeqAt.RcNeAt.lists a b c d e) (λ_ _ _ _ a b c d=>SeqAt.RcNeAt.lists_lengths a b c d)
  I m n p j q o i h
theorem Dx{α β:Type}: ∀{a c:List α}{b d:List β},a.length=b.length->c.length=d.length->a.zip b=c.zip d->a=c/\b=d
 |[],[],[],[],_,_,_=>⟨rfl,rfl⟩
 |[],_::_,[],_::_,_,_,e=>by simp at e
 |_::_,[],_::_,[],_,_,e=>by simp at e
 |x::a,y::c,z::b,w::d,h1,h2,e=>by simp only[ĵ,List.cons.injEq,Prod.mk.injEq]at e;obtain⟨rfl,rfl⟩:=Dx (by simpa using h1) (by simpa using h2) e.2;exact⟨by rw[e.1.1],by rw[e.1.2]⟩
mutual
theorem Den.inj(I:↑1)(w:↑31): ∀{d f:MV}{v:V},Den X.K α H d v->Den X.K α H f v->d=f
 |.non,f,v,h,h'=>by cases mU h;cases f<;>first |rfl|(have:=rM h';cases this;done)|(have:=xI h';cases this;done)|(have:=kS h';cases this;done)|(have:=mV h';cases this;done)|(obtain⟨_,_,e,_⟩:=wV h';cases e;done)|(obtain⟨_,_,e,_⟩:=iL h';cases e;done)|(obtain⟨_,e,_⟩:=aY h';cases e;done)|(obtain⟨_,_,_,_,_,e,_⟩:=iK h';cases e;done)
 |.bl b,f,v,h,h'=>by cases rM h;cases f<;>first |(have:=rM h';cases this;rfl;done)|(have:=mU h';cases this;done)|(have:=xI h';cases this;done)|(have:=kS h';cases this;done)|(have:=mV h';cases this;done)|(obtain⟨_,_,e,_⟩:=wV h';cases e;done)|(obtain⟨_,_,e,_⟩:=iL h';cases e;done)|(obtain⟨_,e,_⟩:=aY h';cases e;done)|(obtain⟨_,_,_,_,_,e,_⟩:=iK h';cases e;done)
 |.int b,f,v,h,h'=>by cases xI h;cases f<;>first |(have:=xI h';cases this;rfl;done)|(have:=mU h';cases this;done)|(have:=rM h';cases this;done)|(have:=kS h';cases this;done)|(have:=mV h';cases this;done)|(obtain⟨_,_,e,_⟩:=wV h';cases e;done)|(obtain⟨_,_,e,_⟩:=iL h';cases e;done)|(obtain⟨_,e,_⟩:=aY h';cases e;done)|(obtain⟨_,_,_,_,_,e,_⟩:=iK h';cases e;done)
 |.str b,f,v,h,h'=>by cases kS h;cases f<;>first |(have:=kS h';rw[KB (V.str.inj this)];done)|(have:=mU h';cases this;done)|(have:=rM h';cases this;done)|(have:=xI h';cases this;done)|(have:=mV h';cases this;done)|(obtain⟨_,_,e,_⟩:=wV h';cases e;done)|(obtain⟨_,_,e,_⟩:=iL h';cases e;done)|(obtain⟨_,e,_⟩:=aY h';cases e;done)|(obtain⟨_,_,_,_,_,e,_⟩:=iK h';cases e;done)
 |.typ b,f,v,h,h'=>by cases mV h;cases f<;>first |(have:=mV h';cases this;rfl;done)|(have:=mU h';cases this;done)|(have:=rM h';cases this;done)|(have:=xI h';cases this;done)|(have:=kS h';cases this;done)|(obtain⟨_,_,e,_⟩:=wV h';cases e;done)|(obtain⟨_,_,e,_⟩:=iL h';cases e;done)|(obtain⟨_,e,_⟩:=aY h';cases e;done)|(obtain⟨_,_,_,_,_,e,_⟩:=iK h';cases e;done)
 |.tup ds,f,v,h,h'=>by
  obtain⟨a,vs,rfl,s1,B⟩:=wV h
  cases f with
  |tup es=>
   obtain⟨k,r,i,y,q⟩:=wV h';cases i;cases I.tuple_inj s1 y;rw[DenL.inj I w B q]
  |scr es=>obtain⟨k,r,i,y,q⟩:=iL h';cases i;exact(FH I y.l s1).elim
  |loc l=>
   obtain⟨k,i,j⟩:=aY h';cases i;obtain⟨M,p,F,u⟩:=w.mem (î j);rcases s1 with(s1|⟨o,s1⟩)|⟨o,its,n,s1,_⟩
   .rw[p]at s1;exact absurd (å s1) (F _)
   .rw[p]at s1;exact(let ⟨_,z⟩:=u _ _ (å s1);by cases z)
   .have:=(I.bs a o (I.mod.kin a o s1)).2;rw[p]at this;cases this
  |non=>cases mU h'
  |bl b=>cases rM h'
  |int b=>cases xI h'
  |str b=>cases kS h'
  |typ b=>cases mV h'
  |obj c ns es=>
   obtain⟨k,C,J,r,N,i,j,_⟩:=iK h';cases i;rcases s1 with(s1|⟨o,s1⟩)|⟨o,its,n,s1,_⟩
   .rw[j]at s1;cases s1
   .rw[j]at s1;cases s1
   .have:=(I.bs a o (I.mod.kin a o s1)).2;rw[j]at this;cases this
 |.scr ds,f,v,h,h'=>by
  obtain⟨a,vs,rfl,s1,B⟩:=iL h
  cases f with
  |scr es=>
   obtain⟨k,r,i,y,q⟩:=iL h';cases i;cases I.list_inj s1.l y.l;rw[DenL.inj I w B q]
  |tup es=>obtain⟨k,r,i,y,q⟩:=wV h';cases i;exact(FH I s1.l y).elim
  |loc l=>
   obtain⟨k,i,j⟩:=aY h';cases i;obtain⟨M,p,F,u⟩:=w.mem (î j);rcases s1 with⟨o,s1⟩|⟨o,its,n,s1,_⟩
   .rw[p]at s1;exact(let ⟨_,z⟩:=u _ _ (å s1);by cases z)
   .have:=(I.bs a o (I.mod.kin a o s1)).2;rw[p]at this;cases this
  |non=>cases mU h'
  |bl b=>cases rM h'
  |int b=>cases xI h'
  |str b=>cases kS h'
  |typ b=>cases mV h'
  |obj c ns es=>
   obtain⟨k,C,J,r,N,i,j,_⟩:=iK h';cases i;rcases s1 with⟨o,s1⟩|⟨o,its,n,s1,_⟩
   .rw[j]at s1;cases s1
   .have:=(I.bs a o (I.mod.kin a o s1)).2;rw[j]at this;cases this
 |.loc l,f,v,h,h'=>by
  obtain⟨a,rfl,G⟩:=aY h;obtain⟨M,p,F,u⟩:=w.mem (î G)
  cases f with
  |loc m=>
   obtain⟨k,i,j⟩:=aY h';cases i;by_cases D:l=m
   .rw[D]
   .exact absurd rfl (w.ne G j D)
  |tup es=>
   obtain⟨k,r,i,s1,q⟩:=wV h';cases i;rcases s1 with(s1|⟨o,s1⟩)|⟨o,its,n,s1,_⟩
   .rw[p]at s1;exact absurd (å s1) (F _)
   .rw[p]at s1;exact(let ⟨_,z⟩:=u _ _ (å s1);by cases z)
   .have:=(I.bs a o (I.mod.kin a o s1)).2;rw[p]at this;cases this
  |scr es=>
   obtain⟨k,r,i,s1,q⟩:=iL h';cases i;rcases s1 with⟨o,s1⟩|⟨o,its,n,s1,_⟩
   .rw[p]at s1;exact(let ⟨_,z⟩:=u _ _ (å s1);by cases z)
   .have:=(I.bs a o (I.mod.kin a o s1)).2;rw[p]at this;cases this
  |non=>cases mU h'
  |bl b=>cases rM h'
  |int b=>cases xI h'
  |str b=>cases kS h'
  |typ b=>cases mV h'
  |obj c ns es=>
   obtain⟨k,C,J,r,N,i,j,_⟩:=iK h';cases i;rw[p]at j;exact(let ⟨_,z⟩:=u _ _ (å j);by cases z)
 |.obj c ns ds,f,v,h,h'=>by
  obtain⟨a,C,J,r,N,rfl,j,W,Q,T,B⟩:=iK h
  cases f with
  |obj c' ns' es=>
   obtain⟨k,C2,P,U,Y,i,A,O,E,L,q⟩:=iK h';cases i;rw[j]at A;injection A with A
   injection A with _ A
   injection A with e1 i e3
   subst e1;rw[Q]at E;cases E;obtain⟨rfl,rfl⟩:=Dx T L e3;rw[DenL.inj I w B q]
  |tup es=>
   obtain⟨k,r,i,s1,q⟩:=wV h';cases i;rcases s1 with(s1|⟨o,s1⟩)|⟨o,its,n,s1,_⟩
   .rw[j]at s1;cases s1
   .rw[j]at s1;cases s1
   .have:=(I.bs a o (I.mod.kin a o s1)).2;rw[j]at this;cases this
  |scr es=>
   obtain⟨k,r,i,s1,q⟩:=iL h';cases i;rcases s1 with⟨o,s1⟩|⟨o,its,n,s1,_⟩
   .rw[j]at s1;cases s1
   .have:=(I.bs a o (I.mod.kin a o s1)).2;rw[j]at this;cases this
  |loc l=>
   obtain⟨k,i,G⟩:=aY h';cases i;obtain⟨M,p,F,u⟩:=w.mem (î G);rw[p]at j;exact(let ⟨_,z⟩:=u _ _ (å j);by cases z)
  |non=>cases mU h'
  |bl b=>cases rM h'
  |int b=>cases xI h'
  |str b=>cases kS h'
  |typ b=>cases mV h'
theorem DenL.inj(I:↑1)(b:↑31): ∀{ds fs:R0}{vs:List V},DenL X.K α H ds vs->DenL X.K α H fs vs->ds=fs
 |[],fs,vs,h,h'=>by
  cases h.isnil
  cases fs with
  |nil=>rfl
  |cons f fs=>obtain⟨_,_,e,_⟩:=h'.uncons;cases e
 |d::ds,fs,vs,h,h'=>by
  obtain⟨v,r,rfl,a,l⟩:=h.uncons
  cases fs with
  |nil=>cases h'.isnil
  |cons f fs=>
   obtain⟨j,k,e,c,i⟩:=h'.uncons;cases e;rw[Den.inj I b a c,DenL.inj I b l i]
end
end
inductive LexR(A:Around)(s:ŀ):List Ł->List Ł->Bool->Prop
 |nn:LexR A s [] [] false
 |nc (x xs):LexR A s [] (x::xs) true
 |cn (y ys):LexR A s (y::ys) [] false
 |eq {y x ys xs k}:SeqAt.EqAt A s y x true->LexR A s ys xs k->LexR A s (y::ys) (x::xs) k
 |ne {y x ys xs k}:SeqAt.EqAt A s y x false->(∀(prog:ł)(w:World)(E Q:VP),Q (.bool k) s->wpAny (model prog w) A (richCompare .Lt y x) Q E s)->LexR A s (y::ys) (x::xs) k
section
open PySem.SeqAt
open PySem.AutoSeq1 (wpAny_loadPart')
open PySem.MeetsSeq PySem.MeetsSeq2 PySem.MeetsSeq3
end
def Mx(r:IsTup s.heap l its)(o:IsTup s.heap b its2)(e:LexR A.in1 s its.toList its2.toList k)(M:A.units<cLine)(prog)(w)(E Q)(h:Q (.bool k) s):
  wpAny ↑7 A (richCompare .Lt (.ref l) (.ref b)) Q E s:=by
 obtain⟨⟨cls,I,data,sl⟩,C,K,n,J⟩:=id r;obtain⟨⟨B,u,_,z⟩,m,q,L,p⟩:=id o;subst K J q p
 exact richCompare_meets_room ⟨_,C,rfl⟩ ⟨_,m,rfl⟩ PySem.F.slot_tuple_lt PySem.F.entry_tuple_lt (PySem.F.args_tuple_lt_2 _ _) ((show Meets (Builtin.«tuple.__lt__» ⟨[.ref l,.ref b],[]⟩)
   (λA R s=>s.heap.get? l=some {cls:=.type "tuple",dict:=I,data:=.seq its n,slots:=sl}/\s.heap.get? b=some {cls:=.type "tuple",dict:=u,data:=.seq its2 L,slots:=z}/\
    LexR A.in1 s its.toList its2.toList k/\R (.ok (.ret (.bool k))) s) from .of_wp λprog w A R s h=>by
    obtain⟨G,g,d,D,os⟩:=s;obtain⟨r,o,e,h⟩:=h;have P:=AutoSeq1.sub_tuple_tuple
    wp_walk using wpAny_loadPart' r,wpAny_loadPart' o,wpAny_forIn_list _ (λrest b v=>b.1=none/\v=⟨G,g,d,D,os⟩/\ ∃(vs ws:A0),rest=vs.zip ws/\
     LexR A.in1 ⟨G,g,d,D,os⟩ vs ws k/\↑47+its2.size=ws.length+its.size) _
    case turn=>
     rintro⟨y,x⟩ rest b v ⟨i,rfl,vs,ws,c,j,a⟩
     cases j with
     |nn=>rw[zip_nil_left]at c;cases c
     |nc x xs=>rw[zip_nil_left]at c;cases c
     |cn y ys=>rw[List.zip_nil_right]at c;cases c
     |@eq y' x' ys xs k' he hr=>
      rw[ĵ]at c;injection c with hyx hrest
      injection hyx with hy e
      subst hy e;simp only[lC0]at a;refine wB (he prog w _ _ ?_)
      wp_walk
      exact⟨rfl,rfl,_,_,hrest,hr,by lia⟩
     |@ne y' x' ys xs k' he hr=>
      rw[ĵ]at c;injection c with hyx hrest
      injection hyx with hy e
      subst hy e;refine wB (he prog w _ _ ?_)
      wp_walk using(hr prog w)
      exact⟨_,rfl,by simpa using h⟩
    case fin=>
     rintro⟨O,N⟩ v ⟨i,rfl,vs,ws,c,j,a⟩;simp only at i;subst i
     have H:k=decide (its.size<its2.size):=by
      cases j with
      |nn=>simp only[ç]at a;exact(dF0 #[0]).symm
      |nc x xs=>simp only[ç,lC0]at a;exact(dT0 #[0]).symm
      |cn y ys=>simp only[ç,lC0]at a;exact(dF0 #[0]).symm
      |eq he hr=>rw[ĵ]at c;cases c
      |ne he hr=>rw[ĵ]at c;cases c
     rw[H]at h
     wp_walk
     exact⟨_,rfl,by simpa [Builtin.Tuple.tupleCompareSizes]using h⟩
    case h=>
     exact⟨rfl,rfl,_,_,rfl,e,by simp;lia⟩))
  ⟨C,m,e,show Value.bool k≠Value.notImplemented/\Q _ s from⟨(λx=>nomatch x),h⟩⟩ M
noncomputable def Iu(e l:MV->MV->Option Bool):List MV->List MV->Option Bool
 |[],[]=>some false
 |[],_::_=>some true
 |_::_,[]=>some false
 |d::ds,f::fs=>(e d f).bind λk=>if k=true then Iu e l ds fs else l d f
def KC(S:Sto):Nat->MV->MV->Option Bool
 |0,_,_=>none
 |n+1,.int i,.int j=>some (decide (i<j))
 |n+1,.str x,.str y=>some (decide (x<y))
 |n+1,.tup ds,.tup es=>Iu (eqv S n) (KC S n) ds es
 |_,_,_=>none
section
variable{X:Cx}
theorem Mz(c: ∀d f x y u v k,Den X.K α H d x->Den X.K α H f y->RelV x u->RelV y v->e d f=some k->SeqAt.EqAt A s u v k)
  (hl: ∀d f x y u v k,Den X.K α H d x->Den X.K α H f y->RelV x u->RelV y v->l d f=some k-> ∀ prog  w  E Q ,Q (.bool k) s->wpAny ↑7 A (richCompare .Lt u v) Q E s):
  ∀{ds fs}{vs B}{q m}{k},DenL X.K α H ds vs->DenL X.K α H fs B->Vals vs q->Vals B m->Iu e l ds fs=some k->LexR A s q m k
 |[],[],_,_,_,_,k,l1,l2,r1,r2,h=>by cases l1.isnil;cases l2.isnil;cases r1;cases r2;cases h;exact .nn
 |[],f::fs,_,_,_,_,k,l1,l2,r1,r2,h=>by
  cases l1.isnil;obtain⟨v,r,rfl,a,l⟩:=l2.uncons;cases r1
  cases r2 with
  |cons a b=>cases h;exact .nc _ _
 |d::ds,[],_,_,_,_,k,l1,l2,r1,r2,h=>by
  cases l2.isnil;obtain⟨v,r,rfl,a,l⟩:=l1.uncons;cases r2
  cases r1 with
  |cons a b=>cases h;exact .cn _ _
 |d::ds,f::fs,_,_,_,_,k,l1,l2,r1,r2,h=>by
  refine l1.uncons.b λv r g a i=>?_;subst g;refine l2.uncons.b λo p C j n=>?_;subst C
  cases r1 with
  |cons b1 c1=>
   cases r2 with
   |cons b2 c2=>
    unfold Iu at h
    cases z:e d f with
    |none=>rw[z]at h;cases h
    |some kk=>
     rw[z]at h;have h:_=some k:=h
     cases kk with
     |true=>
      exact .eq (c d f _ _ _ _ _ a j b1 b2 z) (Mz c hl i n c1 c2 h)
     |false=>
      exact .ne (c d f _ _ _ _ _ a j b1 b2 z) (hl d f _ _ _ _ _ a j b1 b2 h)
theorem Be(I:↑1)(p:↑31): ∀ n  A  d f  x y  u v  k ,A.units+n<cLine->Den X.K α H d x->Den X.K α H f y->RelV x u->RelV y v->KC S n d f=some k->
  ∀ prog  w  E Q ,Q (.bool k) s->wpAny ↑7 A (richCompare .Lt u v) Q E s
 |0,_,_,_,_,_,_,_,_,_,_,_,_,_,h=>by cases h
 |n+1,A,d,f,x,y,u,v,k,hu,h1,h2,rx,ry,h=>by
  intro prog w E Q m;unfold KC at h;split at h
  .cases h
  .cases h;cases xI h1;cases xI h2;obtain⟨t,rfl⟩:=rx;obtain⟨G,rfl⟩:=ry;exact(PyProof.Rows.lt_int m:wpAny _ A _ Q E s)
  .cases h;cases kS h1;cases kS h2;obtain⟨t,rfl⟩:=rx;obtain⟨G,rfl⟩:=ry;refine(PySem.P.lt_str ?_:wpAny _ A _ Q E s);exact m
  .rename_i N M es C;refine(wV h1).b λa J O s1 r=>?_;subst O;refine(wV h2).b λb L R F z=>?_;subst R;cases rx;cases ry;refine(I.tuple s1).c λB D pt _=>?_;refine(I.tuple F).c λo q i _=>?_;cases C;refine Mx pt i ?_ #[0] prog w E Q m
   exact Mz (λd f x y u v k a b c j e=>GV I p n A.in1 d f x y u v k (show A.units+1+n<cLine by lia) a b c j e)
    (λd f x y u v k a b c j e=>Be I p n A.in1 d f x y u v k (show A.units+1+n<cLine by lia) a b c j e) r z D q h
  .cases h
end
section
variable{X:Cx}{b c e:Expr}{es:O0}{f h:AX}
noncomputable def Zt(C:Int->Int->Prop)[∀i j,Decidable (C i j)](g:Int->Int->Int):Er->Er->Sto->R Er
 |.val (.int i),.val (.int j),S=>if C i j then .ok (.val (.int (g i j))) S else .no
 |_,_,_=>.no
noncomputable def zEJ(g:Int->Int->Bool):Er->Er->Sto->R Er
 |.val (.int i),.val (.int j),S=>.ok (.val (.bl (g i j))) S
 |_,_,_=>.no
def Bf[∀i j,Decidable (C i j)]{g:Int->Int->Int}(h: ∀i j,C i j->C' i j):QN X W (rI C' λi j=>.int (g i j)) (Zt C g):=by
 intro p q x y α S H Q d c b a;unfold Zt at a;split at a
 .split at a
  .rename_i e;exact ZB _ _ (yV c) (yV b) (h _ _ e) (Post.val a d (yU _))
  .exact a.elim
 .exact a.elim
def Ve{g:Int->Int->Int}:QN X W (Ua λi j=>.int (g i j)) (Zt (λ_ _=>True) g):=by
 intro p q x y α S H Q d c b a;unfold Zt at a;split at a
 .rw[iP trivial]at a;exact Z3 _ _ (yV c) (yV b) (Post.val a d (yU _))
 .exact a.elim
def P7{g:Int->Int->Bool}:QN X W (Ua λi j=>.bl (g i j)) (zEJ g):=by
 intro p q x y α S H Q d c b a;unfold zEJ at a;split at a
 .exact(Z3 _ _ (yV c) (yV b) (Post.val a d (xU _)))
 .exact a.elim
abbrev JI:=Zt (λ_ _=>True) λi j=>i - j
def P8(e:zR X W a f)(c:zR X W b g):zR X W (.BinOp a .Sub b pos) (λρ S=>(f ρ S).bind λp S1=>(g ρ S1).bind λq d=>JI p q d):=QO (zBG λ_ _ _ _ _ _ _ q=>sub_int q) Ve e c
def Iv(_ j:Int):Prop:=0<j/\j.natAbs.log2<9000
instance(i j:Int):Decidable (Iv i j):=inferInstanceAs (Decidable (_/\_))
abbrev gP:=Zt Iv λi j=>i / j
def Nb(k:zR X W a f)(e:zR X W b g):zR X W (.BinOp a .FloorDiv b pos) (λρ S=>(f ρ S).bind λp S1=>(g ρ S1).bind λq d=>gP p q d):=QO (zEG λi j _ _ _ _ _ c q=>by refine floordiv_int (by have:=c.1;lia) ?_ (.inl (PyProof.noPylong_of_log2 c.2));rw[(Int.fdiv_eq_ediv_of_nonneg i (Int.le_of_lt c.1))];exact q) (Bf λi j h=>h) k e
abbrev wX:=Zt (λ_ j=>0<j) λi j=>i % j
def Bg(k:zR X W a f)(c:zR X W b g):zR X W (.BinOp a .Mod b pos) (λρ S=>(f ρ S).bind λp S1=>(g ρ S1).bind λq d=>wX p q d):=QO (zEG λi j _ _ _ _ _ e q=>by have m:_<j:=e;exact mod_int' #[0] (by rw[Int.fmod_eq_emod_of_nonneg i #[0]];exact q)) (Bf λi j h=>h) k c
def Iw(i j:Int):Prop:=0<=j/\(Builtin.Int.intBits i:Int) * j<=2 ^ 27
instance(i j:Int):Decidable (Iw i j):=inferInstanceAs (Decidable (_/\_))
abbrev JK:=Zt Iw λi j=>i ^ j.toNat
def P9(k:zR X W a f)(e:zR X W b g):zR X W (.BinOp a .Pow b pos) (λρ S=>(f ρ S).bind λp S1=>(g ρ S1).bind λq d=>JK p q d):=QO (zEG λ_ _ _ _ _ _ _ c q=>pow_int c.1 c.2 q) (Bf λi j h=>h) k e
def shlC(i j:Int):Prop:=0<=j/\j<=1000000/\i.natAbs<2 ^ 64
instance(i j:Int):Decidable (shlC i j):=inferInstanceAs (Decidable (_/\_/\_))
noncomputable def Ah(S:Sto):Er->Option (List MV)
 |.new ds=>some ds
 |.val (.loc l)=>match S[l]? with
  |some (.lst ds)=>some ds
  |_=>none
 |_=>none
def TX(i:↑31)(e:Ah S r=some ds)(d:DenX X.K α H r x): ∃a vs,x=.ref a/\H a=some (.lst vs)/\DenL X.K α H ds vs:=by
 unfold Ah at e;split at e
 .cases e;refine d.g λb vs k h _ l=>?_;subst k;exact Z3 b vs rfl h l
 .rename_i n;refine(aG d).a λa m h=>?_;subst m;split at e
  .rename_i es j;cases e;refine(i.obj n a _ h j).a λvs c l=>?_;exact Z3 a vs rfl c l
  .cases e
 .cases e
def Dy(p q:Er)(S:Sto):R Er:=match Ah S p,Ah S q with
 |some x,some y=>if x.length+y.length<=sizeLine then .ok (.new (x++y)) S else .no
 |_,_=>.no
def yW:Er->Er->Sto->R Er
 |.val (.int i),.val (.int j),S=>.ok (.val (.int (i+j))) S
 |.val (.str x),.val (.str y),S=>if x.length+y.length<=sizeLine then .ok (.val (.str (x++y))) S else .no
 |.val (.tup x),.val (.tup y),S=>if x.length+y.length<=sizeLine then .ok (.val (.tup (x++y))) S else .no
 |p,q,S=>Dy p q S
def Nc:OpR X (binaryOp .Add) (λx y H Q=> ∃a b ys,x=.ref a/\y=.ref b/\SqT X.K H a []/\SqT X.K H b ys/\Q (.ref b) H):=by
 intro pins s σ H x y v u Q I M G h;refine h.p λa b ys g O D r q=>?_;subst g;subst O;cases M;cases G;refine(I.tuple D).c λB J p1 _=>?_;refine(I.tuple r).c λp N p2 _=>?_;have A:=J.nil_iff.mpr rfl;subst A;obtain⟨⟨L,w,k,sl⟩,o,C,n,z⟩:=id p1;obtain⟨⟨m,i,_,j⟩,c,e,E,d⟩:=id p2;subst C z e d
 exact concat_meets ⟨_,o,rfl⟩ ⟨_,c,rfl⟩ noFill_tuple_add seq_tuple_add PySem.F.slot_tuple_add PySem.F.entry_tuple_add (PySem.F.args_tuple_add_2 _ _)
  (tuple_addW0 a b _ _ n E w i sl j rfl) ⟨o,c,(Z3 (.ref b) H I rfl q)⟩
def eB(G:zR X W a f)(C:zR X W b g):zR X W (.BinOp a .Add b pos) (λρ S=>(f ρ S).bind λp S1=>(g ρ S1).bind λq D=>yW p q D):=by
 refine QO (L5.or (Al.or (N3.or (Ui.or Nc)))) ?_ G C;intro p q x y α S H Q d j o c;unfold yW at c;split at c
 .exact .inl (Z3 _ _ (yV j) (yV o) (Post.val c d (yU _)))
 .split at c
  .rename_i i;refine .inr (.inl (ZB _ _ (bP j) (bP o) (by rw[jV];exact i) ?_));rw[FD];exact Post.val c d (nI _)
  .exact c.elim
 .split at c
  .rename_i B A i;refine(mW j).b λn m L s1 e=>?_;subst L;refine(mW o).b λs r M w h=>?_;subst M;by_cases z:m=[]
   .subst z;have u:=e.length;refine .inr (.inr (.inr (.inr (Y6 n s r rfl rfl s1 w ?_))));have:B=[]:=by cases B with |nil=>rfl|cons _ _=>simp at u
    subst this;exact Post.val c d (rL w h)
   .refine .inr (.inr (.inr (.inl (Y4 n s m r ⟨rfl,rfl,s1,w,z,(by rw[e.length,h.length];exact i),(λk=>?_),(λk p v=>Post.newt c d v (e.append h))⟩))));subst k;have u:=h.length;have:A=[]:=by cases A with |nil=>rfl|cons _ _=>simp at u
    subst this;rw[aN]at c;exact Post.val c d (rL s1 e)
  .exact c.elim
 .unfold Dy at c;split at c
  .rename_i J F E K;split at c
   .rename_i i;refine(TX d E j).b λn m N k e=>?_;subst N;refine(TX d K o).b λs r O I h=>?_;subst O;exact .inr (.inr (.inl (Y4 n s m r ⟨rfl,rfl,k,I,(by rw[e.length,h.length];exact i),(λp v=>Post.newl c d v (e.append h))⟩)))
   .exact c.elim
  .exact c.elim
def mulC(i j:Int):Prop:=(-(2 ^ 64)<i/\i<2 ^ 64)\/(-(2 ^ 64)<j/\j<2 ^ 64)\/(i.natAbs.log2<4000/\j.natAbs.log2<4000)
theorem Dz(h:i.natAbs.log2<4000):Builtin.Int.intBits i<=2 ^ 20:=by unfold Builtin.Int.intBits;split<;>lia
def mulC.ok(h:mulC i j):IntMulOk i j:=by
 rcases h with h|h|⟨h1,h2⟩
 .exact CMul.ok (.inl h)
 .exact CMul.ok (.inr h)
 .exact .of_bits (Dz h1) (Dz h2)
def Vg:OpR X (binaryOp .Mult) (rI mulC λi j=>.int (i * j)):=zEG λ_ _ _ _ _ _ _ a q=>mul_int q a.ok
instance(i j:Int):Decidable (mulC i j):=inferInstanceAs (Decidable (_\/_\/_))
def Zu(p:Er)(k:Int)(S:Sto):R Er:=match Ah S p with
 |some x=>if 0<=k/\k<100000/\x.length * k.toNat<=sizeLine then .ok (.new (List.replicate k.toNat x).flatten) S else .no
 |none=>.no
def tV:Er->Er->Sto->R Er
 |.val (.int i),.val (.int j),S=>if mulC i j then .ok (.val (.int (i * j))) S else .no
 |.val (.str x),.val (.int k),S=>if 0<=k/\k<1000/\x.length<=1000 then .ok (.val (.str (SZ x k))) S else .no
 |p,.val (.int k),S=>Zu p k S
 |_,_,_=>.no
theorem DenL.rep{K:P0}(l:DenL K α H ds vs): ∀k:Nat,DenL K α H (List.replicate k ds).flatten (List.replicate k vs).flatten
 |0=>yN
 |k+1=>by rw[Ŀ];exact l.append (DenL.rep l k)
theorem Q1(v:zR X W a f)(o:zR X W b g):zR X W (.BinOp a .Mult b pos) (λρ S=>(f ρ S).bind λp S1=>(g ρ S1).bind λq u=>tV p q u):=by
 refine QO (Vg.or (Aw.or N4)) ?_ v o;intro p q x y α S H Q e h i c;unfold tV at c;split at c
 .split at c
  .rename_i d;exact .inl (ZB _ _ (yV h) (yV i) d (Post.val c e (yU _)))
  .exact c.elim
 .split at c
  .rename_i d;exact .inr (.inl (Y9 _ _ ⟨bP h,yV i,d.1,d.2.1,d.2.2,Post.val c e (nI _)⟩))
  .exact c.elim
 .unfold Zu at c;split at c
  .rename_i w s;split at c
   .rename_i d;refine(TX e s h).b λr m z k j=>?_;subst z;exact .inr (.inr (Yq r _ m ⟨rfl,yV i,k,(by lia),(by lia),(by rw[j.length];exact d.2.2),(λp n=>Post.newl c e n (j.rep _))⟩))
   .exact c.elim
  .exact c.elim
 .exact c.elim
noncomputable def zO:Nat:=40
def AS(p q:Er)(S:Sto):R Er:=match OP S zO p q with
 |some k=>.ok (.val (.bl k)) S
 |none=>.no
def QT(p q:Er)(S:Sto):R Er:=match OP S zO p q with
 |some k=>.ok (.val (.bl !k)) S
 |none=>.no
theorem Nd(m:↑32):OpR X (compareOp .Eq) (λx y H Q=> ∃α S p q k,Wd X.g α S H/\DenX X.K α H p x/\DenX X.K α H q y/\OP S zO p q=some k/\Q (.bl k) H):=by intro pins s σ H x y v u Q I j c h;refine h.q λα S p q k n=>n.h λd b i e a=>?_;exact P5 I d zO (by unfold zO;lia) b i j c e X.prog X.w _ _ (Z3 (.bl k) H I rfl a)
def Ea:QN X W (λx y H Q=> ∃α S p q k,Wd X.g α S H/\DenX X.K α H p x/\DenX X.K α H q y/\OP S zO p q=some k/\Q (.bl k) H) AS:=by
 intro p q x y α S H Q b d c a;unfold AS at a;split at a
 .rename_i k e;exact Y2 (α) S p q k ⟨b,d,c,e,Post.val a b (xU _)⟩
 .exact a.elim
def Vh:QN X W (λx y H Q=> ∃α S p q k,Wd X.g α S H/\DenX X.K α H p x/\DenX X.K α H q y/\OP S zO p q=some k/\Q (.bl (!k)) H) QT:=by
 intro p q x y α S H Q b d c a;unfold QT at a;split at a
 .rename_i k e;exact Y2 (α) S p q k ⟨b,d,c,e,Post.val a b (xU _)⟩
 .exact a.elim
def Zv(e:↑32)(h:zR X W a f)(c:zR X W b g):zR X W (.Compare a [.Eq] [b] pos) (λρ S=>(f ρ S).bind λp S1=>(g ρ S1).bind λq d=>AS p q d):=LK (Nd e) Ea h c
def Nf(e:↑32)(h:zR X W a f)(c:zR X W b g):AR X W (.Compare a [.Eq] [b] pos) (λρ S=>((f ρ S).bind λp S1=>(g ρ S1).bind λq d=>AS p q d).bind bN):=sR (Nd e) Ea h c
def XE(B:↑32)(r:zR X W a f)(m:zR X W b g):AR X W (.Compare a [.NotEq] [b] pos) (λρ S=>((f ρ S).bind λp S1=>(g ρ S1).bind λq z=>QT p q z).bind bN):=sR ((by intro pins s σ H x y v u Q I o i h;refine h.q λα S p q k C=>C.h λj d n e c=>?_;exact P6 I j zO (by unfold zO;lia) d n o i e X.prog X.w _ _ (Z3 (.bl (!k)) H I rfl c))) Vh r m
def XF:Er->Er->Sto->R Er
 |.val d,.val f,S=>match KC S zO d f with
  |some k=>.ok (.val (.bl k)) S
  |none=>.no
 |_,_,_=>.no
theorem Ng(n:↑32):OpR X (compareOp .Lt) (λx y H Q=> ∃α S d f k,Wd X.g α S H/\Den X.K α H d x/\Den X.K α H f y/\KC S zO d f=some k/\Q (.bl k) H):=by intro pins s σ H x y v u Q I m c h;refine h.q λα S d f k o=>o.h λi b j e a=>?_;exact Be I i zO X.A d f x y v u k (by unfold zO;lia) b j m c e X.prog X.w _ _ (Z3 (.bl k) H I rfl a)
def Eb:QN X W (λx y H Q=> ∃α S d f k,Wd X.g α S H/\Den X.K α H d x/\Den X.K α H f y/\KC S zO d f=some k/\Q (.bl k) H) XF:=by
 intro p q x y α S H Q b c h a;unfold XF at a;split at a
 .split at a
  .rename_i k e;exact Y2 (α) S _ _ k ⟨b,c,h,e,Post.val a b (xU _)⟩
  .exact a.elim
 .exact a.elim
def Nh(e:↑32)(h:zR X W a f)(c:zR X W b g):AR X W (.Compare a [.Lt] [b] pos) (λρ S=>((f ρ S).bind λp S1=>(g ρ S1).bind λq d=>XF p q d).bind bN):=sR (Ng e) Eb h c
abbrev gtF:=zEJ λi j=>decide (j<i)
def zCD(e:zR X W a f)(c:zR X W b g):AR X W (.Compare a [.Gt] [b] pos) (λρ S=>((f ρ S).bind λp S1=>(g ρ S1).bind λq d=>gtF p q d).bind bN):=sR (zBH λ_ _ _ _ _ _ _ q=>gt_int q) P7 e c
noncomputable def zAI:Er->Er->Sto->R Er
 |.val (.int i),.val (.int j),S=>.ok (.val (.bl (decide (i<=j)))) S
 |.val (.str x),.val (.str y),S=>.ok (.val (.bl (!decide (y<x)))) S
 |_,_,_=>.no
def Ec(L:↑32)(o:zR X W a f)(m:zR X W b g)(n:zR X W c h)(N:lastMarks [.LtE,.Lt] [b,c]=false:=by with_unfolding_all rfl):AR X W (.Compare a [.LtE,.Lt] [b,c] pos) (λρ S=>((f ρ S).bind λp S1=>(g ρ S1).bind λq J=>zAH zAI XF p q J λG=>h ρ G).bind bN):=(by
  refine o.a λZ o U=>?_;refine m.a λtb m C=>?_;refine n.a λtc n M=>?_;refine Z8 _ (Lw (zBI.or (show OpR X (compareOp .LtE) (λx y H Q=> ∃i j,x=.str i/\y=.str j/\Q (.bl (!(j.cps.toList<i.cps.toList))) H) by intro pins s σ H x y v u Q I O K h;refine h.b λi j R V q=>?_;subst R;subst V;obtain⟨t,rfl⟩:=O;obtain⟨t',rfl⟩:=K;exact PySem.P.le_str (Z3 (.bl _) H I rfl q))) (Ng L) o m n N) (λα ρ S σ H Q e sl q=>?_);refine chain (by
    intro p q x y α S H Q e r w d;unfold zAI at d;split at d
    .exact .inl (Z3 _ _ (yV r) (yV w) (Post.val d e (xU _)))
    .refine .inr (Z3 _ _ (bP r) (bP w) ?_);rw[JZ,JZ];exact Post.val d e (xU _)
    .exact d.elim) Eb U C M e sl (Q:=λx H'=> ∃k,x=.bl k/\Q k H') (q.bind λu p S1 D Y e1 T z B F=>?_);refine(XC (F.shift T)).a λk ac E=>?_;subst ac;exact Z8 k (vR B.1) (E.here z rfl))
noncomputable def XG:Er->Er->Sto->R Er
 |.val .non,.val .non,S=>.ok (.val (.bl true)) S
 |_,.val .non,S=>.ok (.val (.bl false)) S
 |_,_,_=>.no
noncomputable def QU:Er->Er->Sto->R Er
 |.val .non,.val .non,S=>.ok (.val (.bl false)) S
 |_,.val .non,S=>.ok (.val (.bl true)) S
 |_,_,_=>.no
theorem XH(d:DenX X.K α H p x)(n:p≠.val .non):decide (x=.non)=false:=by
 cases p with
 |new ds=>refine d.d λb a e _=>?_;subst e;rfl
 |val m=>
  cases m with
  |non=>exact absurd rfl n
  |bl b=>cases vR d;rfl
  |int b=>cases yV d;rfl
  |str b=>cases bP d;rfl
  |typ b=>cases Mn d;rfl
  |obj b b' b''=>refine(iK d).q λ_ _ _ _ _ c=>c.elim λg _=>?_;subst g;rfl
  |tup b=>refine(mW d).d λ_ _ h _=>?_;subst h;rfl
  |scr b=>refine(LI d).d λ_ _ i _=>?_;subst i;rfl
  |loc b=>obtain⟨_,rfl,_⟩:=aG d;rfl
def Ed:QN X W (λx y H Q=>y=.non/\Q (.bl (decide (x=.non))) H) XG:=by
 intro p q x y α S H Q d c e a;unfold XG at a;split at a
 .cases uN c;exact⟨uN e,Post.val a d (xU _)⟩
 .rename_i h i b;rw[XH c (λz=>by first |exact b z|exact b z rfl|exact b _ z|exact b rfl z)];exact⟨uN e,Post.val a d (xU _)⟩
 .exact a.elim
def Ni:QN X W (λx y H Q=>y=.non/\Q (.bl (!decide (x=.non))) H) QU:=by
 intro p q x y α S H Q d c e a;unfold QU at a;split at a
 .cases uN c;exact⟨uN e,Post.val a d (xU _)⟩
 .rename_i h i b;rw[XH c (λz=>by first |exact b z|exact b z rfl|exact b _ z|exact b rfl z)];exact⟨uN e,Post.val a d (xU _)⟩
 .exact a.elim
def zCE(e:zR X W a f)(c:zR X W b g):zR X W (.Compare a [.Is] [b] pos) (λρ S=>(f ρ S).bind λp S1=>(g ρ S1).bind λq d=>XG p q d):=LK Ls Ed e c
def XJ(i:zR X W a f)(e:zR X W b g):AR X W (.Compare a [.IsNot] [b] pos) (λρ S=>((f ρ S).bind λp S1=>(g ρ S1).bind λq m=>QU p q m).bind bN):=sR (by
  intro pins s σ H x y v u Q I c d h;obtain⟨rfl,q⟩:=h;cases d;refine isnot_none_gen (SJ I q ?_)
  cases x<;>first
   |(cases c;rfl)
   |(obtain⟨t,rfl⟩:=c;rfl)) Ni i e
def getL(ds:R0):Er->Sto->R Er
 |.val (.int i),S=>match qF ds i with |some d=>.ok (.val d) S|none=>.no
 |_,_=>.no
def yC:Er->Er->Sto->R Er
 |.val (.str x),.val (.int i),S=>if x.length<=sizeLine then match qF x i with |some c=>.ok (.val (.str [c])) S|none=>.no else .no
 |.val (.tup ds),q,S=>getL ds q S
 |p,q,S=>match cE S p with |some ds=>getL ds q S|none=>.no
def Vi{K:P0}(l:DenL K α H ds vs)(e:qF ds i=some d): ∃v,qF vs i=some v/\Den K α H d v:=by
 unfold qF at e ⊢;rw[l.length]
 cases z:Af ↑12 i with
 |none=>rw[z]at e;cases e
 |some j=>
  rw[z]at e;refine(l.at e).a λv a b=>?_;exact Z8 v a b
def xE(A:zR X W a f)(w:zR X W b g)(hs:SR b:=by exact λ_ _=>rfl):zR X W (.Subscript a b pos) (λρ S=>(f ρ S).bind λp S1=>(g ρ S1).bind λq z=>yC p q z):=by
 refine zBZ (Uj.or (ix_tup.or ix_str)) ?_ A w hs;intro p q x y α S H Q s m r c;have j: ∀{ds:R0}{vs:List V}{i:Int}{d:MV},DenL X.K α H ds vs->qF ds i=some d->Post X.g W α H _ Q-> ∃v,qF vs i=some v/\Q v H:=λl e c=>by refine(Vi l e).a λv h k=>?_;exact⟨v,h,Post.val c s k⟩
 unfold yC at c;split at c
 .split at c
  .rename_i C;split at c
   .rename_i u e;refine .inr (.inr (Y6 _ _ u (bP m) (yV r) (by rw[jV];exact C) (by rw[JZ];exact e) ?_));exact Post.val c s (nI [u])
   .exact c.elim
  .exact c.elim
 .unfold getL at c;split at c
  .split at c
   .rename_i d e;refine(mW m).b λo vs D s1 n=>?_;subst D;refine(j n e c).a λv h k=>?_;exact .inr (.inl (Y4 o vs _ v ⟨rfl,yV r,s1,h,k⟩))
   .exact c.elim
  .exact c.elim
 .split at c
  .rename_i ds B;unfold getL at c;split at c
   .split at c
    .rename_i d e;refine(vT rfl s B m).b λo vs E s1 n=>?_;subst E;refine(j n e c).a λv h k=>?_;exact .inl (Y4 o vs _ v ⟨rfl,yV r,s1,h,k⟩)
    .exact c.elim
   .exact c.elim
  .exact c.elim
end
def OQ{lo:N0}(d:IsTup s.heap t its)(hs:s.heap.IsSliceOf sl vl vu .none)(pl:IsPart vl lo)(e:IsPart vu hi)
  (h0:HT.sIx its.size 0 lo=0) (h1:HT.sIx its.size its.size hi=its.size) (h:Q (.ref t) s):wpAny ↑7 A (getItem (.ref t) (.ref sl)) Q E s:=by
 have a:=d.typeIs;unfold getItem
 try with_reducible refine ö ?_
 first |refine wB _|skip
 refine wB (wpAny_sequenceKey a ↑4 ?_);refine wB (Ċ a Ĕ (Ă Ĕ a entry_tuple_getitem ?_ (args_tuple_getitem _ _)));show wpAny _ _ (Builtin.Tuple.tupleItemsOf _ >>= _) _ _ s;refine wB (tupleItemsOf_ d (wB (wpAny_typeOf (by refine(id hs).c λos b c _=>?_;exact Z8 os b c) ?_)));refine wB (HT.sliceApplied_gen hs pl e ?_);show wpAny _ _ (if _=true then _ else _) _ _ s;rw[iP (by rw[h0,h1];simp)];refine wB (wB (wpAny_typeOf a (wP ?_)));refine wB (wpAny_rule ?_)
 first
  |exact wP (Z8 _ rfl (wP h))
  |exact wB _
  |exact wB _
section
variable{e:Expr}{h:AX}
def Vj:SlR X (λx lo hi H Q=> ∃a xs,x=.ref a/\SqT X.K H a xs/\HT.sIx ↑8 0 lo=0/\HT.sIx ↑8 ↑8 hi=↑8/\Q (.ref a) H):=by
 intro pins s σ H x v p o lo hi sl Q I m hs n j h;refine h.j λa xs g=>g.h λy i k e q=>?_;subst y;cases m;refine(I.tuple i).c λc r d u=>?_;have b:c.toArray.size=xs.length:=by rw[sA];exact r.length.symm
 exact Z3 _ _ PyProof.Rows.slot_tuple_getitem.lookup d.typeIs (OQ d hs n j (by rw[b];exact k) (by rw[b];exact e) (Z3 (.ref a) H I rfl q))
def dN:Er->Option Int->Option Int->Sto->R Er
 |.val (.str x),lo,hi,S=>if x.length<=sizeLine then .ok (.val (.str (iE x lo hi))) S else .no
 |.val (.tup ds),lo,hi,S=>.ok (.val (.tup (iE ds lo hi))) S
 |p,lo,hi,S=>match cE S p with |some ds=>.ok (.new (iE ds lo hi)) S|none=>.no
def Iy{lo:N0}(b:HT.sIx ↑12 0 lo=0)(a:HT.sIx ↑12 ↑12 hi=↑12):iE ds lo hi=ds:=by unfold iE;rw[b,a];simp
def EQ{lo:Option Expr}(w:zR X W a f)(s:O4 X W lo lf)(n:O4 X W hi hf):zR X W (.Subscript a (.Slice lo hi none p2) pos) (λρ S=>(f ρ S).bind λp S1=>(lf ρ S1).bind λl v=>(hf ρ v).bind λu q=>dN p l u q):=by
 refine Ms (N6.or (Uk.or (M6.or Vj))) ?_ w s n;intro p lo hi x α S H Q h j b;unfold dN at b;split at b
 .split at b
  .rename_i r;exact .inl (Z1 _ (bP j) r (Post.val b h (nI _)))
  .exact b.elim
 .rename_i _ _ _ o;refine(mW j).b λi c g s1 d=>?_;subst g;by_cases hw:HT.sIx c.length 0 lo=0/\HT.sIx c.length c.length hi=c.length
  .have e:=Iy (by rw[<-d.length];exact hw.1) (by rw[<-d.length];exact hw.2);rw[e]at b;exact .inr (.inr (.inr (YD i c rfl s1 hw.1 hw.2 (Post.val b h (rL s1 d)))))
  .exact .inr (.inr (.inl (ZB i c rfl s1 hw (λp k=>Post.newt b h k (d.cut lo hi)))))
 .split at b
  .rename_i o m;refine(vT rfl h m j).b λi c y s1 d=>?_;subst y;exact .inr (.inl (Z3 i c rfl s1 (λp k=>Post.newl b h k (d.cut lo hi))))
  .exact b.elim
theorem DenL.pick{K:P0}(l:DenL K α H ds vs): ∀m:List Nat,DenL K α H (m.filterMap (ds[·]?)) (m.filterMap (vs[·]?))
 |[]=>yN
 |i::m=>by
  cases z:ds[i]? with
  |none=>
   rw[İ z,İ (by rw[Ī,l.length];exact Ī.mp z)];exact DenL.pick l m
  |some d=>
   refine(l.at z).a λv q u=>?_;rw[Ĳ z,Ĳ q];exact yD u (DenL.pick l m)
theorem Vals.pick(r:Vals xs us): ∀m:List Nat,Vals (m.filterMap (xs[·]?)) (m.filterMap (us[·]?))
 |[]=>.nil
 |i::m=>by
  cases z:xs[i]? with
  |none=>rw[İ z,İ (r.none_of z)];exact Vals.pick r m
  |some d=>
   refine(r.get z).a λv q u=>?_;rw[Ĳ z,Ĳ q];exact .cons u (Vals.pick r m)
end
section
variable{X:Cx}{W:XW}{a b c e:Expr}{g h:AX}
def XN(S:Sto)(n:Nat)(d:MV):List MV->Option (List Bool)
 |[]=>some []
 |y::ys=>(eqv S n y d).bind λk=>(XN S n d ys).map (k::·)
section
variable{α:B9}{S:Sto}{H:Hp}{pins:L1}{σ:St}{s:ŀ}
def Vk(X:Cx)(α:B9)(S:Sto)(H:Hp)(n:Nat)(d:MV)(u:Ł):Bool:=open Classical in decide (∃y x,Den X.K α H y x/\RelV x u/\eqv S n y d=some true)
open Classical in
def Vm(I:↑1)(i:↑31){n:Nat}{d y:MV}{x:V}{u:Ł}{k:Bool}(c:Den X.K α H y x)(r:RelV x u)(e:eqv S n y d=some k):Vk X α S H n d u=k:=by
 unfold Vk
 cases k with
 |true=>exact dT0 ⟨y,x,c,r,e⟩
 |false=>
  refine dF0 λ⟨o,m,a,j,b⟩=>?_;have h:=r.inj j;subst h;rw[c.inj I i a]at e;rw[e]at b;cases b
theorem FK(I:↑1)(c:↑31)(b:A.units+n<cLine)(dd:Den X.K α H d x)(j:RelV x v): ∀{ys}{vs}{m}{bs},DenL X.K α H ys vs->Vals vs m->XN S n d ys=some bs->
  m.map (Vk X α S H n d)=bs/\ ∀u∈m,SeqAt.EqAt A s u v (Vk X α S H n d u)
 |[],_,_,bs,l,r,e=>by cases l.isnil;cases r;cases e;exact⟨rfl,λu b=>by cases b⟩
 |y::ys,_,_,bs,l,r,e=>by
  refine l.uncons.b λD r' C q B=>?_;subst C
  cases r with
  |cons r1 r2=>
   unfold XN at e
   cases z:eqv S n y d with
   |none=>rw[z]at e;cases e
   |some k=>
    rw[z]at e
    cases h:XN S n d ys with
    |none=>simp[h]at e
    |some cs=>
     simp[h]at e;subst e;obtain⟨o,p⟩:=FK I c b dd j B r2 h;have i:=Vm I c q r1 z;refine⟨by rw[æ,o,i],λu a=>?_⟩;rcases mC.mp a with rfl|a
     .rw[i];exact GV I c n A y d _ _ _ _ k b q dd r1 j z
     .exact p u a
end
theorem any_map{a:A0}{f:Ł->Bool}(h:a.map f=bs):a.toArray.any f=bs.any id:=by subst h;simp[List.any_map]
def itemsOf(S:Sto):Er->Option (List MV)
 |.val (.tup ds)=>some ds
 |r=>cE S r
def FL(b:↑31)(e:itemsOf S r=some ds)(d:DenX X.K α H r x): ∃a vs,x=.ref a/\(SqL X.K H a vs\/SqT X.K H a vs)/\DenL X.K α H ds vs:=by
 unfold itemsOf at e;split at e
 .cases e;refine(mW d).b λa vs c s l=>?_;subst c;exact Z3 a vs rfl (.inr s) l
 .refine(vT rfl b e d).b λa vs h s l=>?_;subst h;exact Z3 a vs rfl (.inl s) l
def BB(a:Bool)(p q:Er)(S:Sto):R Er:=match p with
 |.val d=>match itemsOf S q with
  |some ys=>match XN S zO d ys with
   |some bs=>.ok (.val (.bl (if a=true then !bs.any id else bs.any id))) S
   |none=>.no
  |none=>.no
 |.new _=>.no
def BC(a:Bool):Er->Er->Sto->R Er
 |.val (.str [c]),.val (.str y),S=>.ok (.val (.bl (if a=true then !decide (c∈y)else decide (c∈y)))) S
 |p,q,S=>BB a p q S
abbrev Nj(X:Cx)(a:Bool):R2:=λx y H Q=> ∃α S d q b bs,Wd X.g α S H/\Den X.K α H d x/\DenX X.K α H q y/\itemsOf S q=some b/\XN S zO d b=some bs/\Q (.bl (if a=true then !bs.any id else bs.any id)) H
def KD:QN X W (λx y H Q=>(∃i j,x=.str i/\y=.str j/\Q (.bl (if neg=true then !↑42 else !(Builtin.Str.occurrences j i 0 j.length 1).isEmpty)) H)\/Nj X neg x y H Q) (BC neg):=by
 intro p q x y α S H Q b c e a;unfold BC at a;split at a
 .refine .inl (Z3 _ _ (bP c) (bP e) ?_);rw[<-Ut,PySem.StrLaws.found_one];exact Post.val a b (xU _)
 .unfold BB at a;split at a
  .rename_i d _;split at a
   .rename_i h k;split at a
    .rename_i bs m;exact .inr (Ya (α) S _ q h bs ⟨b,c,e,k,m,Post.val a b (xU _)⟩)
    .exact a.elim
   .exact a.elim
  .exact a.elim
def OpR.imp{f:Ł->Ł->Sem Ł}(h:OpR X f r)(i: ∀x y H Q,r' x y H Q->r x y H Q):OpR X f r':=λpins s σ H x y v u Q I b a q=>h pins s σ H x y v u Q I b a (i x y H Q q)
def Nk(J:↑32):OpR X (compareOp .In) (λx y H Q=>(∃i j,x=.str i/\y=.str j/\Q (.bl (if false =true then !↑42 else !(Builtin.Str.occurrences j i 0 j.length 1).isEmpty)) H)\/Nj X false x y H Q):=
 OpR.imp (Hs.or ((by
   intro pins s σ H x y v u Q I B E h;refine h.u λα S d q G bs g=>g.f λm p D C z o=>?_;refine(FL m C D).b λa F K b l=>?_;subst K;cases E;rcases b with b|b
   .obtain⟨e,r,k,_⟩:=I.list b;obtain⟨c,n⟩:=FK I m (A:=X.A.in1) (by show X.A.units+1+zO<cLine;unfold zO;lia) p B l r z;refine SeqAt.in_listAt _ k.isList (λw hw=>n w (by simpa using hw)) ⟨.bl _,H,I,rfl,?_⟩;rw[any_map c];exact o
   .obtain⟨e,r,k,_⟩:=I.tuple b;obtain⟨c,n⟩:=FK I m (A:=X.A.in1) (by show X.A.units+1+zO<cLine;unfold zO;lia) p B l r z;refine SeqAt.in_tupleAt _ k (λw hw=>n w (by simpa using hw)) ⟨.bl _,H,I,rfl,?_⟩;rw[any_map c];exact o))) λx y H Q q=>q.imp (λq=>q) λq=>q
def QW(J:↑32):OpR X (compareOp .NotIn) (λx y H Q=>(∃i j,x=.str i/\y=.str j/\Q (.bl (if true =true then !↑42 else !(Builtin.Str.occurrences j i 0 j.length 1).isEmpty)) H)\/Nj X true x y H Q):=
 OpR.imp (SK.or ((by
   intro pins s σ H x y v u Q I B E h;refine h.u λα S d q G bs g=>g.f λm p D C z o=>?_;refine(FL m C D).b λa F K b l=>?_;subst K;cases E;rcases b with b|b
   .obtain⟨e,r,k,_⟩:=I.list b;obtain⟨c,n⟩:=FK I m (A:=X.A.in1) (by show X.A.units+1+zO<cLine;unfold zO;lia) p B l r z;refine SeqAt.notIn_listAt _ k.isList (λw hw=>n w (by simpa using hw)) ⟨.bl _,H,I,rfl,?_⟩;rw[any_map c];exact o
   .obtain⟨e,r,k,_⟩:=I.tuple b;obtain⟨c,n⟩:=FK I m (A:=X.A.in1) (by show X.A.units+1+zO<cLine;unfold zO;lia) p B l r z;refine SeqAt.notIn_tupleAt _ k (λw hw=>n w (by simpa using hw)) ⟨.bl _,H,I,rfl,?_⟩;rw[any_map c];exact o))) λx y H Q q=>q.imp (λq=>q) λq=>q
def Zw(h:↑32)(i:zR X W a f)(c:zR X W b g)(e:behindInMarks .In b=false:=by with_unfolding_all rfl):zR X W (.Compare a [.In] [b] pos) (λρ S=>(f ρ S).bind λp S1=>(g ρ S1).bind λq d=>BC false p q d):=LK (Nk h) KD i c e
def Zx(h:↑32)(i:zR X W a f)(c:zR X W b g)(e:behindInMarks .In b=false:=by with_unfolding_all rfl):AR X W (.Compare a [.In] [b] pos) (λρ S=>((f ρ S).bind λp S1=>(g ρ S1).bind λq d=>BC false p q d).bind bN):=sR (Nk h) KD i c e
def Nl(h:↑32)(i:zR X W a f)(c:zR X W b g)(e:behindInMarks .NotIn b=false:=by with_unfolding_all rfl):zR X W (.Compare a [.NotIn] [b] pos) (λρ S=>(f ρ S).bind λp S1=>(g ρ S1).bind λq d=>BC true p q d):=LK (QW h) KD i c e
def LQ(h:↑32)(i:zR X W a f)(c:zR X W b g)(e:behindInMarks .NotIn b=false:=by with_unfolding_all rfl):AR X W (.Compare a [.NotIn] [b] pos) (λρ S=>((f ρ S).bind λp S1=>(g ρ S1).bind λq d=>BC true p q d).bind bN):=sR (QW h) KD i c e
def oV{K:P0}(d:ArgsX K α H [r] vs): ∃v,vs=[v]/\DenX K α H r v:=by
 cases d with
 |cons a l=>cases l;exact Z8 _ rfl a
def Zy{K:P0}(d:ArgsX K α H [r,r'] vs): ∃v u,vs=[v,u]/\DenX K α H r v/\DenX K α H r' u:=by
 cases d with
 |cons a l=>refine(oV l).a λu c b=>?_;subst c;exact Z3 _ u rfl a b
def kY:List Er->Sto->R Er
 |[.val (.str x)],S=>if x.length<=sizeLine then .ok (.val (.int x.length)) S else .no
 |[r],S=>match itemsOf S r with |some ds=>.ok (.val (.int ds.length)) S|none=>.no
 |_,_=>.no
def sS:qH X W (λxs H Q=>(∃z,xs=[.str z]/\z.length<=sizeLine/\Q (.int z.length) H)\/ ∃p ys,xs=[.ref p]/\(SqL X.K H p ys\/SqT X.K H p ys)/\Q (.int ys.length) H) kY:=by
 intro o m α S H Q c d b;unfold kY at b;split at b
 .split at b
  .rename_i k;refine(oV d).a λv g h=>?_;subst g;cases bP h;refine .inl ⟨_,rfl,by rw[jV];exact k,?_⟩;exact Post.val b c (yU _)
  .exact b.elim
 .split at b
  .rename_i n e;refine(oV d).a λv q h=>?_;subst q;refine(FL c e h).b λa j r i l=>?_;subst r;refine .inr (Z3 a j rfl i ?_);rw[l.length];exact Post.val b c (yU _)
  .exact b.elim
 .exact b.elim
def gI:CallR X (.builtin "len") (λxs H Q=>(∃z,xs=[.str z]/\z.length<=sizeLine/\Q (.int z.length) H)\/ ∃p ys,xs=[.ref p]/\(SqL X.K H p ys\/SqT X.K H p ys)/\Q (.int ys.length) H):=SV.or (by
  intro pins s σ H xs m Q I r h;refine h.b λp ys g b q=>?_;subst g;refine(vals1 r).a λu n j=>?_;subst n;cases j;have k:=GQ;rcases b with b|b
  .obtain⟨d,c,e,i⟩:=I.list b;have a:=c.length;exact Calls.call_len_list e.isList (by simp only[sA]<;>lia) ⟨.int ys.length,H,I.tok _,⟨_,by rw[sA,a]⟩,q⟩
  .obtain⟨d,c,e,i⟩:=I.tuple b;have a:=c.length;exact len_tuple e (by simp only[sA]<;>lia) ⟨.int ys.length,H,I.tok _,⟨_,by rw[sA,a]⟩,q⟩)
noncomputable def vX:List MV->Option (List Bool)
 |[]=>some []
 |.bl b::r=>(vX r).map (b::·)
 |_::_=>none
theorem GW{K:P0}: ∀{ds}{bs}{vs},vX ds=some bs->DenL K α H ds vs->vs=bs.map V.bl
 |[],_,_,e,l=>by cases e;exact l.isnil
 |d::r,bs,_,e,l=>by
  cases d with
  |bl b=>
   unfold vX at e
   cases z:vX r with
   |none=>rw[z]at e;cases e
   |some cs=>
    rw[z]at e;cases e;refine l.uncons.b λv u a m q=>?_;subst a;rw[rM m,GW z q];rfl
  |_=>cases e
def Vn:List Er->Sto->R Er
 |[r],S=>match (cE S r).bind vX with |some bs=>.ok (.val (.bl (bs.all id))) S|none=>.no
 |_,_=>.no
def Nn:List Er->Sto->R Er
 |[r],S=>match (cE S r).bind vX with |some bs=>.ok (.val (.bl (bs.any id))) S|none=>.no
 |_,_=>.no
def Q5(j:X.calm=true):qH X W (λxs H Q=> ∃(a:Addr)(bs:M0),xs=[.ref a]/\SqL X.K H a (bs.map V.bl)/\X.calm=true/\Q (.bl (bs.all id)) H) Vn:=by
 intro n k α S H Q c d b;unfold Vn at b;split at b
 .split at b
  .rename_i bs e;refine(oV d).a λv g i=>?_;subst g
   cases z:cE S _ with
   |none=>rw[z]at e;cases e
   |some ds=>
    rw[z]at e;refine(vT rfl c z i).b λh m o s l=>?_;subst o;refine ZB h bs rfl ?_ j (Post.val b c (xU _));rw[<-GW e l];exact s
  .exact b.elim
 .exact b.elim
def GX(S:Sto):Er->Option String
 |.val .non=>some "NoneType"
 |.val (.bl _)=>some "bool"
 |.val (.int _)=>some "int"
 |.val (.str _)=>some "str"
 |.val (.tup _)=>some "tuple"
 |.val (.typ _)=>none
 |.val (.obj _ _ _)=>none
 |r=>(cE S r).map λ_=>"list"
noncomputable def Vo(t T:String):Bool:=t==T || (t=="bool"&&T=="int")
noncomputable def known(T:String):Bool:=T=="int" || T=="bool" || T=="str" || T=="tuple" || T=="list"
def iG:List Er->Sto->R Er
 |[r,.val (.typ T)],S=>match GX S r with
  |some t=>if known T=true then .ok (.val (.bl (Vo t T))) S else .no
  |none=>.no
 |_,_=>.no
theorem qE(K)(c:t="NoneType"\/t="bool"\/t="int"\/t="str"\/t="tuple"\/t="list")(b:known T=true):PySem.W.kitOne K (.type t) (.type T)=some (Vo t T):=by
 have a:T="int"\/T="bool"\/T="str"\/T="tuple"\/T="list":=by
  unfold known at b;simp only[Bool.or_eq_true,beq_iff_eq]at b;rcases b with(((h|h)|h)|h)|h
  .exact .inl h
  .exact .inr (.inl h)
  .exact .inr (.inr (.inl h))
  .exact .inr (.inr (.inr (.inl h)))
  .exact .inr (.inr (.inr (.inr h)))
 rcases c with rfl|rfl|rfl|rfl|rfl|rfl<;>rcases a with rfl|rfl|rfl|rfl|rfl<;>kernel_rfl
def BD:CallR X (.builtin "isinstance") (λxs H Q=> ∃α S r x t T,xs=[x,.ty T]/\Wd X.g α S H/\DenX X.K α H r x/\GX S r=some t/\known T=true/\Q (.bl (Vo t T)) H):=by
 intro pins s σ H xs C Q I w h;refine h.u λα S r x t T E=>E.f λF A d b e q=>?_;subst F;refine(vals2 w).b λu D G i B=>?_;subst G;cases B;have c: ∀p,EP X pins σ Q _ {s with toks:=p}:=λp=>(Z3 (.bl _) H (I.tok _) rfl q)
 unfold GX at b;split at b
 .cases b;cases uN d;cases i;exact PySem.W.kia_one PySem.W.kitx_none I.kIn True.intro (qE X.K (.inl rfl) e) (λz=>nomatch z) c
 .cases b;cases vR d;cases i;exact PySem.W.kia_one PySem.W.kitx_bool I.kIn True.intro (qE X.K (.inr (.inl rfl)) e) (λz=>nomatch z) c
 .cases b;cases yV d;obtain⟨t,rfl⟩:=i;exact PySem.W.kia_one PySem.W.kitx_int I.kIn True.intro (qE X.K (.inr (.inr (.inl rfl))) e) (λz=>nomatch z) c
 .cases b;cases bP d;obtain⟨t,rfl⟩:=i;exact PySem.W.kia_one PySem.W.kitx_str I.kIn True.intro (qE X.K (.inr (.inr (.inr (.inl rfl)))) e) (λz=>nomatch z) c
 .cases b;refine(mW d).b λa v J n l=>?_;subst J;cases i;refine(I.tuple n).c λk y p1 _=>?_;refine p1.c λo j m _=>?_;exact PySem.W.kia_one PySem.W.kitx_tuple I.kIn (Z8 o j m) (qE X.K (.inr (.inr (.inr (.inr (.inl rfl))))) e) (λz=>nomatch z) c
 .cases b
 .cases b
 .cases z:cE S r with
  |none=>rw[z]at b;cases b
  |some ds=>
   rw[z]at b;cases b;refine(vT rfl A z d).b λa v L n l=>?_;subst L;cases i;refine(I.list n).c λk y p1 _=>?_;refine p1.isList.c λo j m _=>?_;exact PySem.W.kia_one PySem.W.kitx_list I.kIn (Z8 o j m) (qE X.K (.inr (.inr (.inr (.inr (.inr rfl))))) e) (λz=>nomatch z) c
def LR:qH X W (λxs H Q=> ∃α S r x t T,xs=[x,.ty T]/\Wd X.g α S H/\DenX X.K α H r x/\GX S r=some t/\known T=true/\Q (.bl (Vo t T)) H) iG:=by
 intro k j α S H Q b d a;unfold iG at a;split at a
 .split at a
  .rename_i t e;split at a
   .rename_i h;refine(Zy d).b λv u m c i=>?_;subst m;cases Mn i;exact Ya (α) S _ v t _ ⟨rfl,b,c,e,h,Post.val a b (xU _)⟩
   .exact a.elim
  .exact a.elim
 .exact a.elim
def iQ:List Er->Sto->R Er
 |[.val (.tup ds)],S=>.ok (.val (.tup ds)) S
 |[r],S=>match cE S r with |some ds=>.ok (.val (.tup ds)) S|none=>.no
 |_,_=>.no
def LS:qH X W (λxs H Q=> ∃p ys,xs=[.ref p]/\((SqL X.K H p ys/\ ∀l,H l=none->Q (.ref l) (yQ H l (.tup ys)))\/(SqT X.K H p ys/\Q (.ref p) H))) iQ:=by
 intro o m α S H Q h d b;unfold iQ at b;split at b
 .obtain⟨v,rfl,j⟩:=oV d;refine(mW j).b λa i g c l=>?_;subst g;exact Z0 a i rfl (.inr ⟨c,Post.val b h (rL c l)⟩)
 .split at b
  .rename_i n e;refine(oV d).a λv q j=>?_;subst q;refine(vT rfl h e j).b λa i r c l=>?_;subst r;exact Z0 a i rfl (.inl ⟨c,λp k=>Post.newt b h k l⟩)
  .exact b.elim
 .exact b.elim
def LT:List Er->Sto->R Er
 |[r],S=>match itemsOf S r with |some ds=>.ok (.new ds) S|none=>.no
 |_,_=>.no
def TZ:qH X W (λxs H Q=> ∃p ys,xs=[.ref p]/\(SqL X.K H p ys\/SqT X.K H p ys)/\ ∀l,H l=none->Q (.ref l) (yQ H l (.lst ys))) LT:=by
 intro o m α S H Q c d b;unfold LT at b;split at b
 .split at b
  .rename_i n e;refine(oV d).a λv g k=>?_;subst g;refine(FL c e k).b λa j q i l=>?_;subst q;exact Z3 a j rfl i (λp h=>Post.newl b c h l)
  .exact b.elim
 .exact b.elim
def mX:bootBuiltins "len"=some (.builtin "len"):=by decide+kernel
def Q6:bootBuiltins "all"=some (.builtin "all"):=by decide+kernel
def Np:bootBuiltins "any"=some (.builtin "any"):=by decide+kernel
def dZ:bootBuiltins "isinstance"=some (.builtin "isinstance"):=by decide+kernel
def Bh:bootBuiltins "int"=some (.type "int"):=by decide+kernel
def UA:bootBuiltins "bool"=some (.type "bool"):=by decide+kernel
def Q7:bootBuiltins "str"=some (.type "str"):=by decide+kernel
def FM:bootBuiltins "tuple"=some (.type "tuple"):=by decide+kernel
def rO:bootBuiltins "list"=some (.type "list"):=by decide+kernel
end
noncomputable def Q8(n:Nat):List Nat:=(Nat.toDigits 10 n).map Char.toNat
def OR(i:Int):List Nat:=if i<0 then 45::Q8 i.natAbs else Q8 i.natAbs
def Nq(i):Str.ofString (toString i)=kX (OR i):=by
 have a:(Str.ofString (toString i)).cps.toList=OR i:=by
  unfold OR
  cases i with
  |ofNat m=>
   rw[iN0 (by have:(0:Int)<=Int.ofNat m:=Int.natCast_nonneg m;omega)];exact PySem.W.KIN.signs_num m
  |negSucc m=>
   rw[iP (Int.negSucc_lt_zero m),signs_ofString];show(String.toList ("-"++Nat.repr (m+1))).map Char.toNat=45::Q8 (m+1);rw[String.toList_append,ï,Nat.toList_repr];rfl
 have: ∀s:Str,s=kX s.cps.toList:=λs=>by cases s;simp[kX]
 rw[this (Str.ofString (toString i)),a]
section
variable{X:Cx}{W:XW}{a o i:Expr}{es:O0}{g h:AX}{pos apos:Pos}
def XO:CallR X (.type "int") ↑46:=by refine Hu.or ?_;intro pins s σ H xs c Q I r h;refine h.g λx n d a b q=>?_;subst d;obtain⟨u,rfl,t,rfl⟩:=vals1 r;exact PySem.W.KIN.call_text a b (Z3 (.int n) H (I.tok _) ⟨_,rfl⟩ q)
def Vq:List Er->Sto->R Er
 |[.val (.int i)],S=>.ok (.val (.int i)) S
 |[.val (.bl k)],S=>.ok (.val (.int (if k then 1 else 0))) S
 |[.val (.str x)],S=>match PySem.intText? (kX x)with
  |some n=>if x.length<=640 then .ok (.val (.int n)) S else .no
  |none=>.no
 |_,_=>.no
def Q9:qH X W ↑46 Vq:=by
 intro m j α S H Q c d a;unfold Vq at a;split at a
 .obtain⟨v,rfl,b⟩:=oV d;cases yV b;exact .inl (.inl ⟨_,rfl,Post.val a c (yU _)⟩)
 .obtain⟨v,rfl,b⟩:=oV d;cases vR b;exact .inl (.inr ⟨_,rfl,Post.val a c (yU _)⟩)
 .obtain⟨v,rfl,b⟩:=oV d;cases bP b;split at a
  .rename_i n e;split at a
   .rename_i h;exact .inr (ZB _ n rfl e (by rw[jV];exact h) (Post.val a c (yU _)))
   .exact a.elim
  .exact a.elim
 .exact a.elim
def kH(p:Er)(S:Sto):Bool:=(cE S p).isSome
def UB:TyM X "list" kH:=by
 intro p x α S H c d h;unfold kH at h
 cases z:cE S p with
 |none=>rw[z]at h;cases h
 |some ds=>
  refine(vT rfl c z d).b λa b e s l=>?_;subst e;exact .inl ⟨rfl,b,s⟩
def strIdx(x y:Db):Option Nat:=(Builtin.Str.occurrences (kX x) (kX y) 0 (kX x).length 1).head?
noncomputable def FN(p:Er)(S:Sto)(G:List MV->Option (List MV)):R Er:=match p with
 |.val (.loc l)=>match S[l]? with
  |some (.lst ds)=>match G ds with
   |some es=>.ok (.val .non) (S.set l (.lst es))
   |none=>.no
  |_=>.no
 |_=>.no
def GY(c:↑31)(q:Ext α0 H0 α H)(k:DenX X.K α H p x)(b:Post X.g W α0 H0 (FN p S G) Q):
  ∃a vs ds es,x=.ref a/\H a=some (.lst vs)/\DenL X.K α H ds vs/\G ds=some es/\ ∀d,DenL X.K α H es d->Q .non (yQ H a (.lst d)):=by
 unfold FN at b;split at b
 .rename_i l;refine(aG k).a λa v h=>?_;subst v;refine(c.of h).a λu j s=>?_;rw[j]at b
  cases u with
  |lst ds=>
   refine s.a λvs e m=>?_;have b:Post X.g W α0 H0 (match G ds with |some es=>R.ok _ _|none=>R.no) Q:=b;split at b
   .rename_i es r;refine Y4 a vs ds es ⟨rfl,e,m,r,(λd n=>?_)⟩;have i:=c.writex h (Zp e) (o:=.lst d);exact(b.shift (q.trans i)).val (c.write h (Zp e) (Z8 d zI (n.ext i))) pH
   .exact b.elim
  |dic _=>exact b.elim
  |ins _ _=>exact b.elim
  |rcd _ _=>exact b.elim
  |fdc _=>exact b.elim
 .exact b.elim
def BE:Er->List Er->Sto->R Er
 |p,[r],S=>(iO r S).bind λy S1=>FN p S1 λds=>if ds.length<sizeLine then some (ds++[y])else none
 |_,_,_=>.no
def Ja:Ba X W Dp BE:=by
 intro p G x J α S F H Q c E u q i b
 match G,i,b with
 |[],_,b=>exact b.elim
 |_::_::_,_,b=>exact b.elim
 |[r],i,b=>
  cases i with
  |cons d n l=>
   cases l;refine(tU E u d).p λM L α' z v C B w=>?_;have b:Post X.g W c F ((iO r S).bind λy D=>FN p D λj=>if j.length<sizeLine then some _ else none) Q:=b;rw[z]at b
   have h:DenX X.K α' H p x:=by
    cases p with
    |val m=>exact Den.ex0 C q
    |new j=>exact b.elim
   refine(GY B v h b).o λa A j es N s o e k=>?_;subst N;split at e
   .rename_i I;cases e;exact Y6 a A _ rfl rfl s (by rw[o.length];exact I) (k _ (o.append (yD w yN)))
   .cases e
def iR(ho:zR X W a f)(i:IM X W (e::es) af)
  (hbase:attributeBase a "append" X.env (eval a X.env)=eval a X.env:=by rfl)
  (hfew:((backTo pos (starEach (e::es) X.env)).all (λx=>!x.1)&&(backToKw pos (keywordEach [] X.env)).all (λx=>x.1.isSome)
   &&decide ↑9)=true:=by rfl)
  (hline:(apos.endLine==pos.line)=true:=by rfl) (hs:q8 X e es:=by rfl) (hplain:q9 X pos es:=by rfl):
  zR X W (.Call (.Attribute a "append" apos) (e::es) [] pos) (λρ S=>(f ρ S).bind λp S1=>if kH p S1=true then(af ρ S1).bind λrs d=>BE p rs d else .no):=
 Dv PySem.F.plainAttrs_list PySem.F.slot_list_append PySem.F.type_list_append (by
   intro pins s σ H x o v w Q I k m h;refine h.p λl xs y g C c B q=>?_;subst g;subst C;cases k;refine m.one.a λu D j=>?_;subst D;obtain⟨z,b,n,r,A,e⟩:=I.lstM c;refine call_meets F.slot_list_append ⟨_,e,rfl⟩ F.entry_list_append (F.args_list_append_2 _ _) (PySem.list_append l b.toArray n u (by rw[sA];lia)) ⟨e,?_⟩;refine Z3 .non _ (I.lset c e (by simp) (r.append (.cons j .nil)) ?_) rfl q;rw[lA,lS]
   lia) Ja UB ho i hbase hfew hline hs hplain
def Jb:Er->List Er->Sto->R Er
 |p,[],S=>FN p S λds=>some ds.reverse
 |_,_,_=>.no
def Bi:Ba X W WM Jb:=by
 intro p s x u α S n H Q c m i e o b
 match s,o,b with
 |_::_,_,b=>exact b.elim
 |[],.nil,b=>
  have b:Post X.g W c n (FN p S λd=>some d.reverse) Q:=b;refine(GY m i e b).o λa r d es v h j q k=>?_;subst v;cases q;exact ZB a r rfl rfl h (k _ j.reverse)
def Bj(ho:zR X W a f)(b:attributeBase a "reverse" X.env (eval a X.env)=eval a X.env:=by rfl)(c:(apos.endLine==pos.line)=true:=by rfl):
  zR X W (.Call (.Attribute a "reverse" apos) [] [] pos) (λρ S=>(f ρ S).bind λp S1=>if kH p S1=true then Jb p [] S1 else .no):=
 XD PySem.F.plainAttrs_list PySem.F.slot_list_reverse PySem.F.type_list_reverse (by intro pins s σ H x o v u Q I m k h;refine h.g λl xs g y j q=>?_;subst g;subst y;cases m;have i:=k.zero;subst i;obtain⟨z,d,n,r,w,e⟩:=I.lstM j;refine call_meets F.slot_list_reverse ⟨_,e,rfl⟩ F.entry_list_reverse (F.args_list_reverse_1 _) (AutoSeq1.list_reverse_list_0 l d.toArray n (by rw[sA];omega)) ⟨e,?_⟩;refine Z3 .non _ (I.lset (its':=d.reverse) j e (by simp) r.reverse ?_) rfl q;rw[ě];omega) Bi UB ho b c
def QX(p q:Er)(d:MV)(ρ:Rho)(S:Sto):R Rho:=match p,q with
 |.val (.loc l),.val (.int k)=>match S[l]? with
  |some (.lst ds)=>match Af ds.length k with
   |some j=>.ok ρ (S.set l (.lst (ds.set j d)))
   |none=>.no
  |_=>.no
 |_,_=>.no
def R1(ho:zR X W o f)(hi:zR X W i g)
  (ha: ∀v,assign (.Subscript o i pos) X.env v=(do
   let z <-holding [v] (eval o X.env);let B <-holding [v,z] (eval i X.env)
   standAt pos
   holding [v,z,B] (setItem z B v)
   release [v,z,B] []):=by intro _;rfl):Mt X W (.Subscript o i pos) (λd ρ S=>(f ρ S).bind λp S1=>(g ρ S1).bind λq N=>QX p q d ρ N):=by
 refine ho.a λto ho Y=>?_;refine hi.a λti hi fi=>?_;refine(Z8 _ (Lp ho hi (show J9 X zBS by
   intro pins s σ H o i v z B u Q I Z ri rv h;refine h.o λp xs k j V ac T hj q=>?_;subst V;subst ac;cases Z;obtain⟨t,rfl⟩:=ri;refine(I.lst T).b λw n r ho hz=>?_;refine(SO hj).k λc K e P=>?_;have G:=r.length;have hn:=GQ
   have O:Inv X pins σ _ {s with heap:=s.heap.update p _}:=
    I.lstUpd T ho (Aq w n j u) (r.set rv j) (by rw[ą];exact hz) s.toks
   by_cases L:0<=k
   .have F:=by rw[seqIndex_of L P]at c;exact å c
    exact PySem.W.ki_setAt ho L #[0] (by rw[sA, <-G];exact P) (by rw[F];exact⟨_,O,q⟩)
   .have F:(k+(w.toArray.size:Int)).toNat=j:=by rw[seqIndex_neg #[0] e]at c;rw[sA, <-G];exact å c
    exact PySem.W.ki_setBack ho #[0] (by rw[sA, <-G];exact e) #[0] (by rw[F];exact⟨_,O,q⟩)) ha) (λα ρ S σ H d v Q wd sl de q=>Y α ρ S σ H _ wd sl (q.bind λu p S1 C H1 e1 y U d1 q1=>fi C ρ S1 σ H1 _ U (sl.ext y) ((q1.shift y).bind λu2 p2 N m H2 e2 A E d2 b=>?_))))
 replace b:=b.shift A
 unfold QX at b;split at b
 .rename_i l k;refine(aG (DenX.ext A d1.1)).a λa ad h=>?_;subst ad;cases yV d2.1;refine(E.of h).a λob c K=>?_;rw[c]at b
  cases ob with
  |lst ds=>
   refine K.a λJ e M=>?_;have b:Post X.g W m H2 (match Af ds.length k with |some j=>R.ok ρ _|none=>R.no) Q:=b;split at b
   .rename_i j ej;have D:=E.writex h (Zp e) (o:=.lst (J.set j v));exact Y4 a J k j ⟨rfl,rfl,e,(by rw[M.length];exact ej),b σ m _ D (E.write h (Zp e) (Z8 _ zI ((M.set ((de.ext y).ext A) j).ext D))) (((sl.ext y).ext A).ext D)⟩
   .exact b.elim
  |dic _=>exact b.elim
  |ins _ _=>exact b.elim
  |rcd _ _=>exact b.elim
  |fdc _=>exact b.elim
 .exact b.elim
end
def _root_.L2.Inv.turnedL{fp:B9}(I:↑1)(k: ∀b o,b∉fp->s.heap.get? b=some o->h'.get? b=some o)
  (hf: ∀b∈fp,EI X pins H b):Inv X pins σ H {s with heap:=h',toks:=t'}:=by
 have d: ∀b u,H b=some u->b∉fp:=λb u e z=>by rw[(hf b z).1]at e;cases e
 refine I.step (λb h=>⟨(hf b h).2.2.2.1,(hf b h).2.1,(hf b h).2.2.2.2.1,(hf b h).2.2.2.2.2⟩) (λb o _ _ a e _=>k b o a e) (λb o _ _ a e _=>⟨_,k b o a e⟩) (λ_ _ _ _ n=>n)
  (λb o a e=>⟨o,k b o a e⟩) (λ_ _ e=>e) (λ_ _ _ e=>e) (λb ps e=>⟨#[],by rw[e];simp⟩) (λm j=>?_) (λb u e=>?_) I.bare
 .refine j.m λo es i p r=>?_;exact Zf o es i (k _ o (λz=>(hf _ z).2.1 rfl) p) r
 .refine(I.hok b u e).stay (λc v a q=>k c v ?_ q) (λ_ q=>q) λ_ _ q=>q;rcases a with z|z
  .rw[z];exact d b u e
  .exact d c _ z
def IsSub(k:Bool)(h:Heap)(a l:Addr)(i:Nat):Prop:=if k=true then h.IsListIter a l i else h.IsTupleIter a l i
def LU(k:Bool)(h:Heap)(l:Addr)(a:B0):Prop:=if k=true then h.IsList l a else h.IsTuple l a
noncomputable def UC(k:Bool)(l:Addr):Obj:={cls:=.type (if k=true then "list_iterator" else "tuple_iterator"),data:=.fields #[.ref l,.int 0 0]}
def IsSub.mk'(e:h.get? it=some (UC k l)):IsSub k h it l 0:=by
 cases k with
 |true=>exact Z1 _ e rfl rfl
 |false=>exact Z1 _ e rfl rfl
def IsSub.there(x:IsSub k h it l i): ∃o,h.get? it=some o/\ ∀v,o.data≠.cell v:=by
 cases k with
 |true=>obtain⟨o,e,_,d⟩:=(x:h.IsListIter it l i);exact⟨o,e,λv z=>by rw[d]at z;cases z⟩
 |false=>obtain⟨o,e,_,d⟩:=(x:h.IsTupleIter it l i);exact⟨o,e,λv z=>by rw[d]at z;cases z⟩
def IsSub.move(x:IsSub k h it l i)(f: ∀o,h.get? it=some o->h'.get? it=some o):IsSub k h' it l i:=by
 cases k with
 |true=>refine(x:h.IsListIter it l i).a λo e r=>?_;exact Z8 o (f o e) r
 |false=>refine(x:h.IsTupleIter it l i).a λo e r=>?_;exact Z8 o (f o e) r
section
def LV(a:LU k s.heap l its)(h:Q (.ref ↑3) {s with heap:=s.heap.push (UC k l)}):wpAny ↑7 A (pyIter (.ref l)) Q E s:=by
 cases k with
 |true=>exact Ę a h
 |false=>exact wpAny_pyIter_tuple a h
def Nr(b:IsSub k s.heap it l i)(m:LU k s.heap l its)(j:its[i]? =some x)
  (hQ: ∀h',IsSub k h' it l (i+1)->Heap.SameBut it s.heap h'->Q x {s with heap:=h'}):wpAny ↑7 A (Builtin.SmallTypes.nextOf (.ref it)) Q E s:=by
 cases k with
 |true=>exact wpAny_nextOf_list_item b m j hQ
 |false=>
  have a:=b;refine(id a).c λo d n c=>?_;obtain⟨q,h,_,p,e⟩:=(m:s.heap.IsTuple l its)
  refine wB (Ċ a.typeIs ħ (Ă ħ a.typeIs F.entry_tuple_iterator_next ?_ (F.args_tuple_iterator_next_1 _)));show wpAny _ _ (field _ 0 >>= _) _ _ s;refine wB (ù d c rfl ?_);refine wB (ù d c rfl ?_);refine wB (wpAny_seqItems h e ?_);simp only[Ĩ,j];refine wB (wpAny_setField d c (by simp) (wP (Z8 x rfl (wP (hQ _ ?_ (Heap.SameBut.update ..))))));exact Z1 _ (Ć _ d (ģ (ē c _))) ((Obj.cls_mapFields ..).trans n) (by rw[ē c];simp[rawInt])
def Vr(d:A.handled=none)(b:IsSub k s.heap it l i)(p:LU k s.heap l its)(n:its[i]? =none)
  (hE: ∀h' e,Heap.ExtBut it s.heap h'->(∃o,h'.get? e=some o/\o.cls=.type "StopIteration")->E (.ref e) {s with heap:=h'}):wpAny ↑7 A (Builtin.SmallTypes.nextOf (.ref it)) Q E s:=by
 cases k with
 |true=>exact wpAny_nextOf_list_end d b p n hE
 |false=>
  have a:=b;refine(id a).c λo h u m=>?_;obtain⟨r,j,_,q,c⟩:=(p:s.heap.IsTuple l its)
  refine wB (Ċ a.typeIs ħ (Ă ħ a.typeIs F.entry_tuple_iterator_next ?_ (F.args_tuple_iterator_next_1 _)));show wpAny _ _ (field _ 0 >>= _) _ _ s;refine wB (ù h m (x:=.ref l) rfl ?_);refine wB (ù h m rfl ?_);refine wB (wpAny_seqItems j c ?_);simp only[Ĩ,n];refine wB (wpAny_rule (wB (wpAny_setField h m (by simp) ?_)));refine wB ?_;refine wB (ę ?_ (by size_fits));refine wB (wpAny_of_eq (by first |rfl|(simp only[firstArgMember];rfl)) ?_);refine ę ?_ (by size_fits);simp only[raiseNew];refine wB (wpAny_handled ?_)
  first |rw[show A.in1.handled=none from d]|rw[d]
  refine wB (wP (wpAny_throw ?_));exact hE _ _ (((Heap.SameBut.update ..).extBut.push _).push _) (Z8 _ (ä _ rfl) rfl)
end
def Vs(k:Bool)(K:P0)(H:Hp)(a:Addr)(xs:List V):Prop:=if k=true then SqL K H a xs else SqT K H a xs
section
def _root_.L2.Inv.seqK(I:↑1)(h:Vs k X.K H a xs): ∃d:List Ł,Vals xs d/\LU k s.heap a d.toArray/\↑8<=sizeLine:=by
 cases k with
 |true=>refine(I.list h).c λd r p z=>?_;exact Z1 d r p.isList z
 |false=>refine(I.tuple h).c λd r p z=>?_;exact Z1 d r p z
def _root_.L2.Inv.seqK_inj(I:↑1)(h:Vs k X.K H a xs)(h':Vs k X.K H a ys):xs=ys:=by
 cases k with
 |true=>exact I.list_inj h h'
 |false=>exact I.tuple_inj h h'
end
structure Sr where
 k:Bool
 ds:List MV
 gs:List (Nat×List MV)
noncomputable def srcOf(S:Sto):Er->Option Sr
 |.val (.tup ds)=>some ⟨false,ds,[]⟩
 |.new ds=>some ⟨true,ds,[]⟩
 |.val (.scr ds)=>some ⟨true,ds,[]⟩
 |.val (.loc l)=>match S[l]? with
  |some (.lst ds)=>some ⟨true,ds,[(l,ds)]⟩
  |_=>none
 |_=>none
structure SrcD(X:Cx)(q:Sr)(l:Addr)(P:List Addr->Sto->Hp->Prop):Prop where
 get: ∀α S H,P α S H-> ∃vs,Vs q.k X.K H l vs/\DenL X.K α H q.ds vs
 stays: ∀α1 S1 H1 α2 S2 H2,P α1 S1 H1->Ext α1 H1 α2 H2->Wd X.g α2 S2 H2->stay q.gs S2->P α2 S2 H2
 st: ∀α S H,P α S H->stay q.gs S
def Bk(L:↑31)(e:srcOf S r=some q)(d:DenX X.K α H r x): ∃l P,x=.ref l/\P α S H/\SrcD X q l P:=by
 unfold srcOf at e;split at e
 .rename_i o;cases e;refine(mW d).b λa c O s l=>?_;subst O;exact⟨a,λα S H=> ∃c,_,rfl,⟨c,s,l⟩,λα S H h=>h,λm z A k y v ⟨c,i,j⟩ x w _=>(Z8 c (x.sqT i) (j.ext x)),λ_ _ _ _=>kE⟩
 .rename_i o;cases e;refine d.g λb c Q h n l=>?_;subst Q
  exact⟨b,λα S H=> ∃c,H b=some (.lst c)/\b∉α/\DenL X.K α H o c,rfl,(Z1 c h n l),λα S H ⟨c,i,_,j⟩=>(Z8 c (SqL.of i:SqL X.K H b c) j),
   λm z A k y v ⟨c,i,j,I⟩ x w _=>(Z1 c (x.keep b _ i j) (x.out i j) (I.ext x)),λ_ _ _ _=>kE⟩
 .rename_i o;cases e;refine(LI d).b λa c R s l=>?_;subst R;exact⟨a,λα S H=> ∃c,SqF X.K H a c/\DenL X.K α H o c,rfl,(Z8 c s l),λα S H ⟨c,i,j⟩=>(Z8 c i.l j),λm z A k y v ⟨c,i,j⟩ x w _=>(Z8 c (x.sqF i) (j.ext x)),λ_ _ _ _=>kE⟩
 .rename_i n;split at e
  .rename_i o D;cases e;refine(aG d).a λa T h=>?_;subst T;refine(L.obj n a _ h D).a λc i j=>?_;refine⟨a,λα S H=> ∃c,H a=some (.lst c)/\DenL X.K α H o c/\α[n]? =some a/\S[n]? =some _,rfl,⟨c,i,j,h,D⟩,λα S H ⟨c,i,j,_⟩=>(Z8 c (SqL.of i:SqL X.K H a c) j),?_,?_⟩
   .intro m z A k y v ⟨c,M,N,C,B⟩ x w hs;have u:=hs (n,o) (by simp);refine(w.obj n a _ (x.at C) u).a λG F E=>?_;exact⟨G,F,E,x.at C,u⟩
   .intro α S H ⟨c,_,_,_,B⟩ p J;have:=by simpa using J
    subst this;exact B
  .cases e
 .cases e
noncomputable def pairs(xs ys:R0):List MV:=List.zipWith (λx y=>.tup [x,y]) xs ys
structure EnSt(k:Bool)(e it l:Addr)(i:Nat)(h:Heap):Prop where
 e: ∃old,IsEnum h e it i old
 s:IsSub k h it l i
section
variable{prog:ł}{w:World}{A:Around}{i:Nat}
def Vu{Q:VP}(C:IsEnum s.heap e it i old)(P:IsSub k s.heap it l i)(hl:LU k s.heap l its)(Y:its[i]? =some x)(a:e≠it)
  (hQ: ∀h',IsEnumOut h' e it ( i +1) x ↑3->IsSub k h' it l (i+1)->h'.get? ↑3=some {cls:=.type "tuple",data:=.seq #[.int i s.toks,x]}->
   (∀b o,b≠e->b≠it->s.heap.get? b=some o->h'.get? b=some o)->Q (.ref ↑3) {s with heap:=h',toks:=s.toks+1}):
  wpAny ↑7 A (Builtin.«enumerate.__next__» ⟨[.ref e],[]⟩) (λJ s'=> ∃v,J=.done (.ret v)/\Q v s') E s:=by
 obtain⟨u,g,d,p,os⟩:=s;show wpAny _ _ (field _ 2 >>= _) _ _ _;refine wB (ù C rfl rfl (wB (Nr P hl Y λha I h=>?_)));have T:=(h.2 e a).trans C;refine wB (ù T rfl rfl ?_);refine wB (ù T rfl rfl ?_);show wpAny _ _ _ _ _ ⟨ha,g,d,p,os⟩;refine wB (wpAny_mkInt ?_);refine wB (ĺ T (by simp) λZ S c=>?_)
 replace S:IsEnum Z e it _ old:=S
 refine wB (ĺ S (by simp) λj U m=>?_)
 replace U:IsEnum j e it _ old:=U
 refine wB (wpAny_newTuple ?_);have r:j.objs.size=u.objs.size:=by rw[m.1,c.1,h.1]
 have B:IsEnum (j.push {cls:=.type "tuple",data:=.seq #[.int i p,x]}) e it _ old:=hP0 _ U;have W:(j.push {cls:=.type "tuple",data:=.seq #[.int i p,x]}).get? u.objs.size=some {cls:=.type "tuple",data:=.seq #[.int i p,x]}:=by rw[<-r];exact ä _ rfl
 have kd: ∀b o,b≠e->b≠it->u.get? b=some o->(j.push {cls:=.type "tuple",data:=.seq #[.int i p,x]}).get? b=some o:=λb o z K q=>
  hP0 _ (m.extBut b o z (c.extBut b o z (h.extBut b o K q)))
 have X:IsSub k (j.push {cls:=.type "tuple",data:=.seq #[.int i p,x]}) it l _:=I.move λo q=>hP0 _ (m.extBut _ o (Ne.symm a) (c.extBut _ o (Ne.symm a) q));generalize j.push {cls:=.type "tuple",data:=.seq #[.int i p,x]}=hd at B W kd X ⊢;rw[r];refine wB ?_;refine wB (ù B rfl rfl (wP ?_));refine wB (wpAny_rule (wB (ù B rfl rfl (wB (ĺ B (by simp) λhf O D=>?_)))))
 replace O:IsEnum hf e it _ x:=O
 refine wB ?_;refine wB (ĺ O (by simp) λN H F=>?_)
 replace H:IsEnumOut N e it _ x u.objs.size:=H
 refine ĺ H (by simp) λy L M=>?_
 replace L:IsEnumOut y e it _ x u.objs.size:=L
 have G:=λb o n q=>M.extBut b o n (F.extBut b o n (D.extBut b o n q));exact wB (wpAny_letGo (wP ⟨_,rfl,hQ y L (X.move λo q=>G _ o (Ne.symm a) q) (G _ _ (ċ (ã C)) W) λb o z K q=>G b o z (kd b o z K q)⟩))
end
def QY(K:P0)(F:↑25):Sp:=λb H Q _=> ∃a,DenL K [] H a b/\a.length=1/\ ∀g:Gm,g.K=K->Post g W0 [] H (F a []) Q
def Nt: ∀vs H Q E,QY g.K F vs H Q E->Ag g 1 F vs H Q E:=λvs H Q E ⟨b,l,c,q⟩=>(ZY ([]) ([]) b ⟨rfl,by simp,λl a o h=>by simp at h⟩ l c (q g rfl))
def R3{K:P0}(b:Mb H)(h:SqL K H a xs):SqF K H a xs:=by
 rcases h with(h|⟨o,h⟩)|h
 .rcases b a with z|⟨o,ys,z⟩
  .rw[z]at h;cases h
  .rw[z]at h;cases h
 .exact .inl ⟨o,h⟩
 .exact .inr h
theorem aX(b)(S)(k:β->Sto->R γ):(R.ok b S).bind k=k b S:=by exact Eq.trans (R.bind_ok b S k) rfl
theorem Vv(d)(S):Uz (some (some d)) S=.ok (.val d) S:=rfl
theorem LW:Mv S (S++T):=⟨by rw[lA];lia,λl a=>.inl (â a)⟩
def mY(n)(i):lo n (.int i):=by unfold lo;trivial
def GZ(n)(i):lo n (.str i):=by unfold lo;trivial
def Ee(n)(i):lo n (.bl i):=by unfold lo;trivial
noncomputable def LX(n):lo n .non:=by unfold lo;trivial
def uT(h:DI n ds):lo n (.tup ds):=by unfold lo;exact h
theorem kT: ∀{ds},(∀d∈ds,lo n d)->DI n ds
 |[],_=>by unfold DI;trivial
 |d::ds,h=>by unfold DI;exact⟨h d mF0,kT λe m=>h e (mO _ m)⟩
def XQ(h:lo ↑0 d)(a: ∀l,d≠.loc l):dY S (.val d) (S++T)=.ok (.val d) S:=by
 unfold dY;rw[iP LW];have e:(S++T).take ↑0=S:=by simp
 cases d with
 |loc l=>exact absurd rfl (a l)
 |_=>dsimp only;rw[iP h,e]
def nA(a:rs.length=n)(b:F (zP rs S).1 (zP rs S).2=.ok (.val d) (S++T))(h:lo ↑0 d)(hd: ∀l,d≠.loc l):zQ n F rs S=.ok (.val d) S:=by unfold zQ;rw[iP a,b];exact XQ h hd
def gF(a:rs.length=n)(b:F (zP rs S).1 (zP rs S).2=.ok (.new ds) (S++T))(h:DI ↑0 ds):zQ n F rs S=.ok (.new ds) S:=by unfold zQ;rw[iP a,b];exact (show dY S (.new ds) (S++T)=.ok (.new ds) S by
  unfold dY;rw[iP LW];have e:(S++T).take ↑0=S:=by simp
  dsimp only;rw[iP h,e])
def BF(a:rs.length=n)(c:F (zP rs S).1 (zP rs S).2=.ok (.val (.loc l)) (S++T))(d:↑0<=l)(b:(S++T)[l]? =some (.lst ds))(h:DI ↑0 ds):zQ n F rs S=.ok (.new ds) S:=by unfold zQ;rw[iP a,c];exact (show dY S (.val (.loc l)) (S++T)=.ok (.new ds) S by
  unfold dY;rw[iP LW];have e:(S++T).take ↑0=S:=by simp
  dsimp only;rw[iN0 #[0],b];dsimp only;rw[iP h,e])
def iS(a:rs.length=n)(b:F (zP rs S).1 (zP rs S).2=.ok (.val d) S)(h:lo ↑0 d)(hd: ∀l,d≠.loc l):zQ n F rs S=.ok (.val d) S:=nA a (by rw[aN];exact b) h hd
section
theorem zCG(b)(S):bN (.val (.bl b)) S=.ok b S:=rfl
theorem as_int(i)(S):IP (.val (.int i)) S=.ok (some i) S:=rfl
theorem R4(b)(S):aZ (.val (.bl b)) S=.ok b S:=rfl
theorem add_int(i j)(S):yW (.val (.int i)) (.val (.int j)) S=.ok (.val (.int (i+j))) S:=rfl
theorem sub_int(i j)(S):JI (.val (.int i)) (.val (.int j)) S=.ok (.val (.int (i - j))) S:=rfl
def add_str(h:x.length+y.length<=sizeLine):yW (.val (.str x)) (.val (.str y)) S=.ok (.val (.str (x++y))) S:=iP h
def rP(h:x.length+y.length<=sizeLine):yW (.val (.tup x)) (.val (.tup y)) S=.ok (.val (.tup (x++y))) S:=iP h
def ER(a:Ah S p=some x)(b:Ah S q=some y)(h:x.length+y.length<=sizeLine):yW p q S=.ok (.new (x++y)) S:=by
 have e:Dy p q S=.ok (.new (x++y)) S:=by unfold Dy;rw[a,b];exact iP h
 unfold yW;split
 .cases a
 .cases a
 .cases a
 .exact e
theorem R5(i j)(S):zEJ g (.val (.int i)) (.val (.int j)) S=.ok (.val (.bl (g i j))) S:=rfl
def Vx(i j):Ul (.int i) (.int j)=decide (i=j):=by
 show(i==j)=_;by_cases h:i=j
 .subst h;simp
 .rw[dF0 h];simpa using h
def Vy(x y):Ul (.str (kX x)) (.str (kX y))=decide (x=y):=by
 show(kX x==kX y)=_;by_cases h:x=y
 .subst h;simp
 .rw[dF0 h];have:=λz=>h (KB z);simpa using this
theorem lR(n)(i j):eqv S (n+1) (.int i) (.int j)=some (decide (i=j)):=by rw[<-Vx];rfl
theorem FO(n)(x y):eqv S (n+1) (.str x) (.str y)=some (decide (x=y)):=by rw[<-Vy];rfl
theorem R8(n)(x)(y):eqv S (n+1) (.int x) (.str y)=some false:=rfl
theorem R9(n)(x)(y):eqv S (n+1) (.str x) (.int y)=some false:=rfl
theorem UD(n)(x y):eqv S (n+1) (.bl x) (.bl y)=some (x==y):=rfl
theorem Vz(d f):AS (.val d) (.val f) S=match eqv S (zO+1) d f with |some k=>.ok (.val (.bl k)) S|none=>.no:=rfl
theorem Wa(d f):QT (.val d) (.val f) S=match eqv S (zO+1) d f with |some k=>.ok (.val (.bl !k)) S|none=>.no:=rfl
def Bm(h:eqv S (zO+1) d f=some k):AS (.val d) (.val f) S=.ok (.val (.bl k)) S:=by rw[Vz,h]
def HA(h:eqv S (zO+1) d f=some k):QT (.val d) (.val f) S=.ok (.val (.bl !k)) S:=by rw[Wa,h]
def eq_int(i j)(S):AS (.val (.int i)) (.val (.int j)) S=.ok (.val (.bl (decide (i=j)))) S:=Bm (lR _ i j)
def eq_str(x y)(S):AS (.val (.str x)) (.val (.str y)) S=.ok (.val (.bl (decide (x=y)))) S:=Bm (FO _ x y)
def ne_int(i j)(S):QT (.val (.int i)) (.val (.int j)) S=.ok (.val (.bl (!decide (i=j)))) S:=HA (lR _ i j)
theorem lt_int(i j)(S):XF (.val (.int i)) (.val (.int j)) S=.ok (.val (.bl (decide (i<j)))) S:=rfl
theorem lt_str(i j)(S):XF (.val (.str i)) (.val (.str j)) S=.ok (.val (.bl (decide (i<j)))) S:=rfl
theorem yF(h:0<b)(d:b<1073741824)(a)(S):gP (.val (.int a)) (.val (.int b)) S=.ok (.val (.int (a / b))) S:=by
 refine iP ⟨h,?_⟩;have c:b.natAbs<2 ^ 30:=by omega
 have:=(Nat.log2_lt (by omega:b.natAbs≠0)).mpr c
 lia
def mod_lit(h:0<b)(a)(S):wX (.val (.int a)) (.val (.int b)) S=.ok (.val (.int (a % b))) S:=iP h
def UE(h: -(2 ^ 64)<b/\b<2 ^ 64)(a)(S):tV (.val (.int a)) (.val (.int b)) S=.ok (.val (.int (a * b))) S:=iP (Or.inr (Or.inl h))
def eE(h: -(2 ^ 64)<a/\a<2 ^ 64)(b)(S):tV (.val (.int a)) (.val (.int b)) S=.ok (.val (.int (a * b))) S:=iP (Or.inl h)
def Ef(h:Iw a b)(S):JK (.val (.int a)) (.val (.int b)) S=.ok (.val (.int (a ^ b.toNat))) S:=iP h
theorem Wb(ρ)(i)(d)(S):JH ρ i (.val d) S=.ok (.next (ρ.set i (some d))) S:=rfl
theorem Wc(ρ)(i)(ds)(S):JH ρ i (.new ds) S=.ok (.next (ρ.set i (some (.loc ↑0)))) (S++[.lst ds]):=rfl
theorem We(S):zP [] S=([],S):=rfl
theorem Wf(d)(rs)(S):zP (.val d::rs) S=(d::(zP rs S).1,(zP rs S).2):=rfl
theorem zD(h:F ρ S=.ok (.next ρ') S'):zL F G ρ S=G ρ' S':=by unfold zL;rw[h];rfl
theorem pM(h:F ρ S=.ok (.ret r) S'):zL F G ρ S=.ok (.ret r) S':=by unfold zL;rw[h];rfl
def yX(S):stay [] S:=kE
def zW(a:gf d ρ S=.ok ρ0 S0)(h:b ρ0 S0=.ok (.next ρ') S')(hs:stay gs S'):jK gf b gs (d::ds) ρ S=jK gf b gs ds ρ' S':=by
 conv=>lhs;unfold jK
 rw[a,aX,h,aX];dsimp only;rw[iP hs]
def Eg(a:gf d ρ S=.ok ρ0 S0)(h:b ρ0 S0=.ok (.ret r) S'):jK gf b gs (d::ds) ρ S=.ok (.ret r) S':=by
 conv=>lhs;unfold jK
 rw[a,aX,h,aX]
def iT(a:t ρ S=.ok true S1)(c:b ρ S1=.ok (.next ρ') S2):jY t b (n+1) ρ S=jY t b n ρ' S2:=by
 conv=>lhs;unfold jY
 rw[a,aX,iP rfl,c,aX]
def DA(a:t ρ S=.ok false S1):jY t b (n+1) ρ S=.ok (.next ρ) S1:=by
 conv=>lhs;unfold jY
 rw[a,aX,iN0 xF0]
theorem uU(b:0<=i)(a:i<↑8): ∃c,qF xs i=some c:=by refine⟨xs[i.toNat]'#[0],?_⟩;unfold qF Af;rw[iP b,iP a];exact gE _
def uV{P:α->Prop}(h: ∀e∈xs,P e)(z:qF xs i=some e):P e:=by
 unfold qF at z
 cases q:Af ↑8 i with
 |none=>rw[q]at z;cases z
 |some j=>rw[q]at z;exact h e (î z)
def ix_str(h:x.length<=sizeLine)(a:qF x i=some c):yC (.val (.str x)) (.val (.int i)) S=.ok (.val (.str [c])) S:=by show(if x.length<=sizeLine then match qF x i with |some c=>R.ok _ S|none=>.no else .no)=_;rw[iP h,a]
def ix_tup(a:qF ds i=some d):yC (.val (.tup ds)) (.val (.int i)) S=.ok (.val d) S:=by show(match qF ds i with |some d=>R.ok _ S|none=>.no)=_;rw[a]
def Bn(a:qF ds i=some d):yC (.new ds) (.val (.int i)) S=.ok (.val d) S:=by show(match qF ds i with |some d=>R.ok _ S|none=>.no)=_;rw[a]
def aH(b:S[l]? =some (.lst ds))(a:qF ds i=some d):yC (.val (.loc l)) (.val (.int i)) S=.ok (.val d) S:=by
 have e:cE S (.val (.loc l))=some ds:=by unfold cE;dsimp only;rw[b]
 show(match cE S _ with |some ds=>getL ds _ S|none=>.no)=_;rw[e];show(match qF ds i with |some d=>R.ok _ S|none=>.no)=_;rw[a]
def rQ(a:S[l]? =some (.lst ds)):kY [.val (.loc l)] S=.ok (.val (.int ↑12)) S:=by
 have b:itemsOf S (.val (.loc l))=some ds:=by unfold itemsOf;exact(by unfold cE;dsimp only;rw[a])
 show(match itemsOf S _ with |some ds=>R.ok _ S|none=>.no)=_;rw[b]
def nB(a:S[l]? =some (.lst ds)):cE S (.val (.loc l))=some ds:=by unfold cE;dsimp only;rw[a]
def uW(a:S[l]? =some (.lst ds)):Ah S (.val (.loc l))=some ds:=by unfold Ah;dsimp only;rw[a]
def rR(a:S[l]? =some (.lst ds)):IQ (.val (.loc l)) S=.ok ⟨ds,[(l,ds)]⟩ S:=by unfold IQ;dsimp only;rw[a]
def nE(a:S[l]? =some (.lst ds)):stay [(l,ds)] S:=λp b=>by
 have:=by simpa using b
 subst this;exact a
def LY(h: -(2 ^ 62)<=j/\j<2 ^ 62):kG [.val (.int j)] S=.ok ⟨(List.range j.toNat).map λk=>.int (k:Nat),[]⟩ S:=iP h
def cut_str(h:x.length<=sizeLine)(lo hi):dN (.val (.str x)) lo hi S=.ok (.val (.str (iE x lo hi))) S:=iP h
theorem Ny(x:List α)(lo hi):(iE x lo hi).length<=x.length:=by
 unfold iE;rw[lT,ÿ]
 lia
def lU(x:List α)(k)(d:0<=k):iE x none (some k)=x.take k.toNat:=by
 unfold iE;have b:HT.sIx x.length 0 none=0:=rfl;rw[b];have c:HT.sIx x.length x.length (some k)=min k.toNat x.length:=by unfold HT.sIx;simp only;split<;>omega
 rw[c,drop_zero,Nat.sub_zero];by_cases a:k.toNat<=x.length
 .rw[min_eq_left a]
 .rw[Nat.min_eq_right (by omega),List.take_length,ľ (by omega)]
def fits(h:n<=1000000):n<=sizeLine:=by rw[ô];exact í h ↑4
def uX(h:rs.length<=1000000):jX rs S=.ok (.new (zP rs S).1) (zP rs S).2:=iP (fits h)
def mZ(h:rs.length<=1000000):xY rs S=.ok (.val (.tup (zP rs S).1)) (zP rs S).2:=iP (fits h)
def zCH(S):jX [] S=.ok (.new []) S:=uX (by simp)
def lst1(a)(S):jX [.val a] S=.ok (.new [a]) S:=uX (by simp)
def T2(a b)(S):jX [.val a,.val b] S=.ok (.new [a,b]) S:=uX (by simp)
def zCI(a b c)(S):jX [.val a,.val b,.val c] S=.ok (.new [a,b,c]) S:=uX (by simp)
def lst6(a b c d e f)(S):jX [.val a,.val b,.val c,.val d,.val e,.val f] S=.ok (.new [a,b,c,d,e,f]) S:=uX (by simp)
def tup2(a b)(S):xY [.val a,.val b] S=.ok (.val (.tup [a,b])) S:=mZ (by simp)
def zCJ(a b c)(S):xY [.val a,.val b,.val c] S=.ok (.val (.tup [a,b,c])) S:=mZ (by simp)
theorem isi_is(i)(S):iG [.val (.int i),.val (.typ "str")] S=.ok (.val (.bl false)) S:=rfl
theorem isi_ss(i)(S):iG [.val (.str i),.val (.typ "str")] S=.ok (.val (.bl true)) S:=rfl
theorem T4(i)(S):iG [.val (.int i),.val (.typ "tuple")] S=.ok (.val (.bl false)) S:=rfl
theorem T5(i)(S):iG [.val (.str i),.val (.typ "tuple")] S=.ok (.val (.bl false)) S:=rfl
theorem isi_tt(i)(S):iG [.val (.tup i),.val (.typ "tuple")] S=.ok (.val (.bl true)) S:=rfl
theorem T6(i)(S):iG [.val (.bl i),.val (.typ "bool")] S=.ok (.val (.bl true)) S:=rfl
theorem FP{P:MV->Prop}(hs:stay gs S):
  ∀{ds},(∀d∈ds, ∃m y,gf d ρb S=.ok m S/\cf m S=.ok true S/\ef m S=.ok (.val y) S/\P y)-> ∃out,yG gf cf ef ρb gs ds S=.ok out S/\out.length=↑12/\ ∀o∈out,P o
 |[],_=>(Z1 ([]) rfl rfl (λo h=>by simp at h))
 |d::ds,st=>by refine(st d mF0).g λm y q u v B=>?_;refine(FP hs λd b=>st d (mO _ b)).c λout e c a=>?_;refine Z1 _ ?_ (by rw[lC0,lC0,c]) (λo i=>(mC.mp i).elim (λz=>z▸B) (a o));unfold yG;rw[q,yO,aX,u,yO,aX,v,yO,aX];unfold iO;rw[aX,iP hs,e];rfl
def Nm(x:Db):Prop:=1<=x.length/\x.length<=8/\ ∀c∈x,97<=c/\c<=122
def Vl:MV->Prop
 |.int i=> -(10 ^ 30)<i/\i<10 ^ 30
 |.str x=>Nm x
 |_=>False
def Vl.cases(h:Vl d):(∃i,d=.int i/\ -(10 ^ 30)<i/\i<10 ^ 30)\/ ∃x,d=.str x/\Nm x:=by
 cases d with
 |int i=>exact .inl ⟨i,rfl,h⟩
 |str x=>exact .inr ⟨x,rfl,h⟩
 |_=>exact h.elim
end
def Ite(K:P0)(k:Bool)(l:Addr):It:=
 ⟨λi H=> ∃xs x,Vs k K H l xs/\xs[i]? =some x,
   λi H v H'=> ∃p x,H p=none/\v=.ref p/\H'=yQ H p (.tup [.int (i:Nat),x])/\(∀xs,Vs k K H l xs->xs[i]? =some x),
   λi H=> ∃xs,Vs k K H l xs/\↑8<=i⟩
section
variable{s:ŀ}
def Jc(j:LU k s.heap l its)
  (h: ∀h',EnSt k (↑3+1) ↑3 l 0 h'->(∀c o,s.heap.get? c=some o->h'.get? c=some o)->Q (.ref (↑3+1)) {s with heap:=h'}):
  wpAny ↑7 A (call (.type "enumerate") [.ref l]) Q E s:=by
 refine callType_new F.called_enumerate ↑4 (F.typeCall_enumerate_1 _) (F.newCall_enumerate_1 _) (λa=>F.args_object_init_2 a _) F.entry_enumerate_new ((show Meets (Builtin.«enumerate.__new__» ⟨[.type "enumerate",.ref l],[]⟩) (λ_ R s=>LU k s.heap l its/\
   R (.ok (.ret (.ref (↑3+1)))) {s with heap:=(s.heap.push (UC k l)).push {cls:=.type "enumerate",data:=.fields #[.none,.bool false,.ref ↑3,rawInt 0,.none,.none]}}) from .of_wp λprog w A R s h=>by
    obtain⟨q,g,d,p,os⟩:=s;obtain⟨j,h⟩:=h;have n:=sub_enumerate;have e:=j;have i: ∀(h:Heap)(o:Obj),(h.push o).objs.size=h.objs.size+1:=λh o=>Ē ..
    wp_walk
    refine wpAny_stack_any λst=>wP ?_;split
    .rename_i c _ _ _ _ _;cases (c==Value.type "enumerate")
     .wp_walk using LV e
      exact⟨_,rfl,by simp only[i];exact h⟩
     .wp_walk using LV e
      exact⟨_,rfl,by simp only[i];exact h⟩
    .wp_walk using LV e
     exact⟨_,rfl,by simp only[i];exact h⟩)) ⟨j,?_⟩;have m:=by have:=ä (s.heap.push (UC k l)) (o:={cls:=.type "enumerate",data:=.fields #[.none,.bool false,.ref ↑3,rawInt 0,.none,.none]}) rfl;rw[(Ē ..)]at this;exact this
 refine⟨(Z8 _ m rfl),h _ ⟨⟨_,m⟩,IsSub.mk' (hP0 _ (ä _ rfl))⟩ λb o x=>hP0 _ (hP0 _ x)⟩
end
theorem Je{K:P0}(hne:e≠it):
  Turn P w K (.Tuple elts kt pt) (Ite K k l) [e,it] e (λi h=>EnSt k e it l i h) where
 mem:=by simp
 obj:=λi h st b hb=>by
  obtain⟨⟨old,he⟩,hs⟩:=st;rcases (by simpa using hb)with rfl|rfl
  .exact(Z8 _ he (λv q=>by cases q))
  .exact hs.there
 keep:=λi h h' st kk=>by obtain⟨⟨old,he⟩,hs⟩:=st;exact⟨⟨old,kk e (by simp) _ he⟩,hs.move λo q=>kk it (by simp) o q⟩
 item:=by
  intro X hP hw hK hc i pins s σ H E I hf st hg;subst hP hw hK;refine hg.d λxs x q1 hx=>?_;refine(I.seqK q1).c λits r1 p1 _=>?_;refine(r1.get hx).a λu hu ru=>?_;obtain⟨⟨old,he⟩,hs⟩:=st;have hT:s.TypeIs (.ref e) "enumerate":=⟨_,he,rfl⟩
  refine wB (wpAny_attempt (Ċ hT F.slot_enumerate_next (Ă F.slot_enumerate_next hT F.entry_enumerate_next
   (Vu he hs p1 (by simpa using hu) hne λh' a1 a2 a3 a4=>wP (Z8 _ rfl ?_)) (F.args_enumerate_next_1 _))))
  refine wpAny_letOwnedTupleGo_enum a1 λh2 z2 sb2=>?_
  have I0:Inv X pins σ _ {s with heap:=s.heap.push {cls:=.type "tuple",data:=.seq #[.int i s.toks,u]},toks:=s.toks+1}:=
   I.laid (o:=.tup [.int _,x]) (λb o e=>hP0 _ e) (à _) ⟨by show 2<=sizeLine;decide,_,.cons ⟨_,rfl⟩ (.cons ru .nil),⟨_,ä _ rfl,rfl,_,rfl⟩⟩
  have lt: ∀b∈[e,it],b<s.heap.objs.size:=λb hb=>by
   rcases (by simpa using hb)with rfl|rfl
   .exact ã he
   .refine hs.there.a λo eo _=>?_;exact ã eo
  have fr: ∀b∈[e,it],yQ H ↑3 (.tup [.int (i:Nat),x]) b=none:=λb hb=>by rw[zH (ê (lt b hb))];exact(hf b hb).1
  have mv: ∀b o,b∉[e,it]->(s.heap.push {cls:=.type "tuple",data:=.seq #[.int i s.toks,u]}).get? b=some o->h2.get? b=some o:=λb o hb eo=>by
   simp only[mC,nM,or_false,not_or]at hb;refine sb2.extBut _ _ hb.1 ?_;by_cases hbs:b=↑3
   .subst hbs;rw[ä _ rfl]at eo;cases eo;exact a3
   .rw[Heap.get?_push_ne _ _ _ hbs]at eo;exact a4 b o hb.1 hb.2 eo
  refine YD (.ref ↑3) _ (I0.turnedL (t':=s.toks+1) mv λb hb=>let ⟨_,c2,c3,c4,c5,c6⟩:=hf b hb;⟨fr b hb,c2,c3,c4,c5,c6⟩) rfl (ZB _ x (I.hok.fresh (à _)) rfl rfl (λzs hz=>?_)) ⟨⟨u,?_⟩,?_⟩ fr
  .rw[I.seqK_inj hz q1];exact hx
  .simpa using z2
  .exact a2.move λo eo=>sb2.extBut _ _ (Ne.symm hne) eo
 done:=by
  intro X hP hw hK hc i pins s σ H E I hf st hg;subst hP hw hK;obtain⟨xs,q1,hx⟩:=hg;refine(I.seqK q1).c λits r1 p1 _=>?_;obtain⟨⟨old,he⟩,hs⟩:=st;have hT:s.TypeIs (.ref e) "enumerate":=(Z8 _ he rfl)
  have e1:=r1.length;refine wB (wpAny_attempt (Ċ hT F.slot_enumerate_next (Ă F.slot_enumerate_next hT F.entry_enumerate_next ?_ (F.args_enumerate_next_1 _))));show wpAny _ _ (field _ 2 >>= _) _ _ _;refine wB (ù he rfl rfl ?_);refine wB (Vr (I.ok.hd hc) hs p1 (by simp;lia) λh' x hk hx'=>?_);refine hx'.a λo ho hcl=>?_;refine wB (wpAny_isInstance (Z8 o ho hcl) isSubtype_stop (wP ⟨rfl,?_⟩));refine I.turnedL (λb o hb eo=>?_) hf;simp only[mC,nM,or_false,not_or]at hb;exact hk b o hb.2 eo
 self:=λ_ _ _ _ _ st h=>let ⟨⟨_,he⟩,_⟩:=st;wpAny_pyIter_enum he h
def zCK(K:P0)(b:TA):TI:=λσ H R=>b σ H λc a=> ∃k l,c=[.ref l]/\(∃xs,Vs k K a l xs)/\R (Ite K k l) a
section
variable{a:Expr}{p:Pos}
def Wg(n:Gl X "enumerate")(u:X.mg "enumerate"=none)(w:PA X [a] ta)(hs:starEach [a] X.env=[(false,eval a X.env)]:=by rfl):
  PI X (.Tuple elts kt pt) (.Call (.Name "enumerate" p) [a] [] pos) (zCK X.K ta):=by
 intro pins s σ H R I h;refine Call_ (EH I n u (show bootBuiltins "enumerate"=some (.type "enumerate") by decide+kernel) (Ď (wU (w pos pins s σ H _ I h) λB s1 ⟨z,y,I1,j,v⟩=>?_) (by rw[hs];rfl) (by rfl)));refine v.b λk l g C q=>?_;subst g;obtain ⟨xs,e⟩:=C
 cases j with
 |cons r rr=>
  cases rr;cases r;refine(I1.seqK e).c λo A p1 _=>?_;refine Jc p1 λh' st m=>let ⟨⟨_,d⟩,_⟩:=id st;wpAny_pyIter_enum d ?_;refine Yt _ _ _ _ y rfl (I1.kept m) (Je (ċ (Nat.lt_succ_self _))) st (λb i=>?_) q;have c:↑39<=b:=by rcases (by simpa using i)with h|h<;>rw[h]<;>(first |exact à _|exact Nat.le_add_right _ _)
  exact I1.fpOk c (I1.hok.fresh c)
noncomputable def Jf(xs:R0):List MV:=xs.zipIdx.map λp=>.tup [.int (p.2:Nat),p.1]
def zCL(rs:List Er)(S:Sto):R Wk:=match rs with
 |[p]=>match srcOf S p with
  |some a=>.ok ⟨Jf a.ds,a.gs⟩ S
  |none=>.no
 |_=>.no
theorem Eh(M:Gl X "enumerate")(Y:X.mg "enumerate"=none)(r:IM X W [a] af)(hs:starEach [a] X.env=[(false,eval a X.env)]:=by rfl):
  WI X W (.Tuple elts kt pt) (.Call (.Name "enumerate" p) [a] [] pos) (λρ S=>(af ρ S).bind zCL):=by
 refine r.a λt r k=>?_;refine Z8 _ (Wg M Y r hs) (λα ρ S σ H Rc U sl q=>k α ρ S σ H _ U sl (q.bind λvs rs T m H1 e Z y G b=>?_))
 replace b:=b.shift Z
 unfold zCL at b;split at b
 .rename_i r1;split at b
  .rename_i s1 Q;refine(QQ G).a λu g O=>?_;subst g;refine(Bk y Q O).b λJ L R p1 c=>?_;subst R;have B:(Jf s1.ds).length=s1.ds.length:=by unfold Jf;rw[lM0,List.length_zipIdx]
   refine Z3 s1.k J rfl ⟨_,(c.get _ _ _ p1).choose_spec.1⟩ (b.here y ⟨λα S H=>L α S H,?_,p1,?_,?_⟩)
   .intro i j P F h C;refine(c.get _ _ _ h).a λn s z=>?_;have hl:=z.length;refine⟨λhi=>?_,λhi=>?_⟩
    .have hi:=hi;refine⟨(Z0 n _ s (gE #[0])),?_⟩;rintro x H' ⟨pp,E,D,rfl,rfl,I⟩;refine(z.get (I n s)).a λd N K=>?_;have v:=C.newx (o:=.tup [.int (i:Nat),E]) D;have A:=C.new (o:=.tup [.int (i:Nat),E]) D;refine⟨v,A,c.stays _ _ _ _ _ _ h v A (c.st _ _ _ h),.tup [.int (i:Nat),d],?_,?_⟩
     .unfold Jf;rw[ë,List.getElem?_zipIdx,N];simp
     .exact rL (.of zI) (yD (yU _) (yD (K.ext v) yN))
    .have hi:=hi;exact Z8 n s (by lia)
   .intro m T H1 j P F h x w hs;exact c.stays _ _ _ _ _ _ h x w hs
   .exact c.st _ _ _ p1
  .exact b.elim
 .exact b.elim
end
instance:DecidableEq MV:=λ_ _=>Classical.propDecidable _
def look(kvs:X0)(k:MV):Option MV:=(kvs.find? λp=>decide (p.1=k)).map (·.2)
def putK(kvs:X0)(k d:MV):List (MV×MV):=if(look kvs k).isSome=true then kvs.map (λp=>if p.1=k then(p.1,d)else p)else kvs++[(k,d)]
def QZ(p)(kvs)(k):look (p::kvs) k=if p.1=k then some p.2 else look kvs k:=by
 unfold look;rw[find?_cons];by_cases h:p.1=k
 .rw[dT0 h,iP h];rfl
 .rw[dF0 h,iN0 h]
section
variable{X:Cx}{o:Expr}
def Bo(I:↑1):sysModules<s.heap.objs.size:=lt_trans ↑4 ((I.mod.glob.keeps I.bk).lt)
theorem Wd.put(w:Wd gg α S H)(e:H p=none)(q:ObD gg (α++[p]) (yQ H p ho) p m):Ext α H (α++[p]) (yQ H p ho)/\Wd gg (α++[p]) (S++[m]) (yQ H p ho):=by
 have x:=w.newx (o:=ho) e;refine⟨⟨⟨⟨[p],rfl⟩,x.tup,x.frz⟩,λb n=>?_,x.keep,x.has⟩,⟨?_,?_,λl c s d i=>?_⟩⟩
 .rcases á.mp n with h|h
  .exact .inl h
  .rw[mS.mp h];exact .inr e
 .rw[lA,lA,w.len];rfl
 .exact į.mpr ⟨w.nd,by simp,λa u c r=>by rw[mS.mp r];rintro rfl;exact(w.fresh e) u⟩
 .by_cases k:l<α.length
  .rw[â k]at d;rw[â (by rw[<-w.len];exact k)]at i;exact((w.new (o:=ho) e).obj l c s d i).move (Ex0.grow α [p] _) rfl
  .have j:l=α.length:=by
    have:=(gS.mp d).1;rw[lA,lS]at this
    lia
   subst j;rw[è (à _),sub_self]at d;rw[è (by rw[w.len];exact à _),w.len,sub_self]at i;cases d;cases i;exact q
noncomputable def Ei(S:Sto):R Er:=.ok (.val (.loc ↑0)) (S++[.dic []])
def XR:zR X W (.Dict [] [] pos) (λ_ S=>Ei S):=by
 refine⟨λσ H Q=> ∀p,H p=none->Q (.ref p) (yQ H p (.dK [])),λpins s σ H Q I h=>?_,λα d S σ H Q a sl q p b=>?_⟩
 .exact wpAny_Dict_empty (Z3 (.ref ↑3) _ (I.laid (o:=.dK []) (λ_ _ q=>hP0 _ q) (à _)
   ⟨zero_le _,Ě.mpr (Ne.symm (ê (Bo I))),[],.nil,Heap.DictOf.new s.heap⟩) rfl (h _ (I.hok.fresh (à _))))
 .obtain⟨x,c⟩:=a.put (m:=.dic []) b (.inl ⟨[],zI,.nil⟩);exact q _ _ _ x c (DenE.val (pI (by rw[<-a.len,è (à _),sub_self];rfl)))
def DenN.length: ∀{kvs xs},DenN X.K α H kvs xs->↑8=kvs.length:=λa=>by
 induction a with
 |nil=>exact rfl
 |cons _ _ _ _ _ l ih=>exact by rw[lC0,lC0,ih]
end
def FsD(g:Gm)(α:B9)(H:Hp)(d:Option Addr)(fs:List (Str×MV)):Prop:=fs=[]\/ ∃a b c,d=some a/\H a=some (.frz c (.xd b))/\DenF g.K α H fs b
abbrev WE(g:Gm)(E:XK):XW:=λc fs _ α H=> ∀C d,g.mg c=some (.ref C)->FsD g α H d fs->E (.ref C) d H
noncomputable def LZ:MV->Bool
 |.non=>true
 |.bl _=>true
 |.int _=>true
 |.str _=>true
 |_=>false
def Jg{K:P0}: ∀{d}{v},LZ d=true->Den K α H d v->Den K α' H d v
 |.non,_,_,q=>by cases mU q;exact pH
 |.bl _,_,_,q=>by cases rM q;exact xU _
 |.int _,_,_,q=>by cases xI q;exact yU _
 |.str _,_,_,q=>by cases kS q;exact nI _
theorem MA{K:P0}: ∀{fs gs},fs.all (λp=>LZ p.2)=true->DenF K α H fs gs->DenF K α' H fs gs
 |_,_,_,.nil=>.nil
 |_,_,h,.cons a l=>by rw[List.all_cons,aE]at h;exact .cons (Jg h.1 a) (MA h.2 l)
def Post.wmono[Dn β τ](f: ∀c fs S α' H',W c fs S α' H'->W' c fs S α' H'): ∀{m:R β}{Q},Post g W α H m Q->Post g W' α H m Q
 |.ok b S,Q,q=>q
 |.exc c fs S,_,q=>λα' H' x w=>f _ _ _ _ _ (q α' H' x w)
 |.no,_,q=>q
def DL(K:P0)(C:Addr)(i:A0)(a:Option Ł):Prop:=
 ∃nm q N bs d h b r c j k m p o e,K.lookup C=some (excClassObj nm q C N bs i d h b r c j k m p o e "ValueError.__new__")/\PySem.W.nsOkIn K N=true/\PySem.W.nsIn K N "__init__"=some a/\(∀n∈qn,PySem.W.nsIn K N n=some none)/\d=true
def XEach(K:P0)(mg:K0)(M:Addr):List (Str×Addr)->Prop
 |[]=>True
 |(c,C)::r=>(mg c=some (.ref C)/\ ∃i,DL K C (.ref M::qC) i)/\XEach K mg M r
structure XTab(K:P0)(mg:K0)(M:Addr)(cs:List (Str×Addr)):Prop where
 m:mg "MendError"=some (.ref M)
 mc:DL K M qC none
 each:XEach K mg M cs
 nd:(M::cs.map (·.2)).Nodup
theorem XEach.at{K:P0}: ∀{d},XEach K mg M d-> ∀{c C},(c,C)∈d->mg c=some (.ref C)/\ ∃i,DL K C (.ref M::qC) i
 |_::r,h,c',C',z=>by
  rcases mC.mp z with z|z
  .cases z;exact h.1
  .exact XEach.at h.2 z
def uY{K:P0}(X:K.In h)(c:DL K C (.ref M::qC) i)(m:DL K M qC none):tR h C M:=by
 obtain⟨_,_,N,_,_,_,_,_,_,_,_,_,_,_,_,l,o,_,q⟩:=c;obtain⟨_,_,j,_,_,_,_,_,_,_,_,_,_,_,_,e,b,_,d⟩:=m
 exact⟨_,_,_,_,_,_,_,_,_,_,_,_,_,_,_,_,_,X _ _ l,.of_isNs (PySem.W.isNs_of_in X o),λn a=>PySem.W.nsMap_none_of_in X o (q.1 n a),
  _,_,_,_,_,_,_,_,_,_,_,_,_,_,_,_,_,X _ _ e,.of_isNs (PySem.W.isNs_of_in X b),λn a=>PySem.W.nsMap_none_of_in X b (d.1 n a)⟩
section
variable{pos p p2:Pos}
noncomputable def tW(ns:C0)(a:Str):Er->Sto->R Er
 |.val (.loc l),S=>match S[l]? with
  |some (.ins c _)=>if c∈ns then .ok (.val (.bl (decide (c=a)))) S else .no
  |_=>.no
 |_,_=>.no
noncomputable def Oa(ns:C0):Er->Sto->R Er
 |.val (.loc l),S=>match S[l]? with
  |some (.ins c _)=>if c∈ns then .ok (.val (.bl true)) S else .no
  |_=>.no
 |_,_=>.no
def IsX(X:Cx)(M:Addr)(H:Hp)(x:V)(C:Addr):Prop:= ∃a b,x=.ref a/\H a=some (.frz b (.ext λh=>h.get? a=some b))/\b.cls=.ref C/\(∃i,DL X.K C (.ref M::qC) i)/\DL X.K M qC none
def Ob:CallR X (.builtin "isinstance") (λxs H Q=> ∃x C D,xs=[x,.ref D]/\IsX X M H x C/\(C=D\/(C≠D/\M≠D/\ ∃u i,DL X.K D u i))/\Q (.bl (decide (C=D))) H):=by
 intro pins s σ H xs n Q I r h;refine h.n λ_ C D N P G q=>?_;subst N;obtain ⟨y,L,rfl,B,o,⟨i,w⟩,E⟩:=P
 obtain⟨e,n,j,⟨k,_,c,A,rfl⟩,rfl⟩: ∃e b,RelV _ e/\(∃k a,RelV _ k/\Vals [] a/\b=k::a)/\n=e::b:=by
  cases r with
  |cons j r=>cases r with
   |cons c r=>exact Z3 _ _ j (Z3 _ _ c r rfl) rfl
 cases j;cases c;cases A;have p:=(I.hok y _ B).1;have O:=uY I.kIn w E;rcases G with rfl|⟨n1,n2,u,i2,cD⟩
 .refine PyProof.Rows.call_isinstance_of (Im p o (Z3 (.bl true) H I rfl ?_));simpa using q
 .refine cD.x λ_ _ _ _ _ _ _ _ _ _ _ _ _ _ _ g=>g.elim λF _=>?_;refine(Ml O).c λJ v d m=>?_;refine PyProof.Rows.call_isinstance_of (Uw O p o (I.kIn _ _ F) v d m ?_ (Z3 (.bl false) H (I.tok _) rfl ?_))
  .simp only[ĉ,List.contains_nil,Bool.or_eq_false_iff,Ě];exact⟨λz=>n1 (by cases z;rfl),λz=>n2 (by cases z;rfl),by simp,by simp,by simp,by simp,trivial⟩
  .simpa [n1]using q
def Oc:CallR X (.builtin "isinstance") (λxs H Q=> ∃x C,xs=[x,.ty "ValueError"]/\IsX X M H x C/\Q (.bl true) H):=by
 intro pins s σ H xs k Q I r h;refine h.b λ_ C g z q=>?_;subst g;obtain ⟨n,y,rfl,p,v,⟨i,m⟩,u⟩:=z
 obtain⟨d,k,e,⟨j,_,c,o,rfl⟩,rfl⟩: ∃d b,RelV _ d/\(∃j a,RelV _ j/\Vals [] a/\b=j::a)/\k=d::b:=by
  cases r with
  |cons e r=>cases r with
   |cons c r=>exact Z3 _ _ e (Z3 _ _ c r rfl) rfl
 cases e;cases c;cases o;have w:=(I.hok n _ p).1;have O:=uY I.kIn m u;exact PyProof.Rows.call_isinstance_of (Ux O w v (by kernel_rfl) (by simp[ĉ]) (Z3 (.bl true) H I rfl q))
def Ej(T:XTab X.K X.mg M cs)(m:↑31)(d:DenX X.K α H r x)(e:r=.val (.loc l))(j:S[l]? =some (.ins c fs))(v:c∈cs.map (·.1)):
  ∃C,(c,C)∈cs/\IsX X M H x C:=by
 subst e;refine(aG d).a λi D h=>?_;subst D;obtain⟨o,y,C,B,q,A,s,u,b,_⟩: ∃o,S[l]? =some o/\ObD X.g α H i _:=(Z8 _ j (m.obj l i _ h j))
 refine(mM0.mp v).a λE a F=>?_;obtain ⟨k,p⟩:=E;subst F;obtain⟨w,n⟩:=T.each.at a;have:C=p:=by have z:X.mg k=some _:=q;rw[w]at z;cases z;rfl
 subst this;exact⟨C,a,i,s,rfl,u,b,n,T.mc⟩
theorem XTab.inj{K:P0}(T:XTab K mg M cs)(h:(c,C)∈cs)(h':(c',C')∈cs)(e:(cs.map (·.1)).Nodup):(C=C'↔c=c'):=by
 constructor
 .rintro rfl;have d:=(Ľ.mp T.nd).2
  have: ∀(l:List _),(l.map (·.2)).Nodup->(c,C)∈l->(c',C)∈l->c=c':=by
   intro l
   induction l with
   |nil=>intro _ z;simp at z
   |cons y r ih=>
    intro d a b;rw[æ,Ľ]at d;rcases mC.mp a with a1|a1<;>rcases mC.mp b with b1|b1
    .rw[<-b1]at a1;cases a1;rfl
    .exact absurd (by rw[<-a1];exact mM0.mpr ⟨(c',C),b1,rfl⟩) d.1
    .exact absurd (by rw[<-b1];exact mM0.mpr ⟨(c,C),a1,rfl⟩) d.1
    .exact ih d.2 a1 b1
  exact this cs d h h'
 .rintro rfl;have a:=(T.each.at h).1;rw[(T.each.at h').1]at a;cases a;rfl
def xP(T:XTab X.K X.mg M cs)(B:(cs.map (·.1)).Nodup)(d:(c2,D)∈cs)(J:X.mg "isinstance"=none)(v:Gl X "isinstance")(e:Gl X c2)(j:zR X W a f)(i:cs.map (·.1)=ns:=by rfl)(hd:(c2==("__debug__"))=false:=by decide)
  (he:starEach [a,.Name c2 p2] X.env=(false,eval a X.env)::starEach [.Name c2 p2] X.env:=by rfl) (hp2:(backTo pos (starEach [.Name c2 p2] X.env)).any (·.1)=false:=by rfl):
  zR X W (.Call (.Name "isinstance" p) [a,.Name c2 p2] [] pos) (λρ S=>(f ρ S).bind (tW ns c2)):=by
 subst i;refine j.a λP j N=>?_;have E:=(T.each.at d).1;refine Z8 _ (FB (Ob (M:=M)) v J PyProof.Rows.boot_isinstance (gU j (gU ((λ_ _ _ H _ I h=>pE I e E (Z3 (.ref D) H I rfl h) hd)) sP) he) ↑4 ↑4 he hp2) (λα ρ S σ H Q F sl q=>N α ρ S σ H _ F sl (q.bind λu r Y o O U L k m b=>?_))
 replace b:=b.shift L
 unfold tW at b;split at b
 .rename_i l;split at b
  .rename_i c fs A;split at b
   .rename_i w;refine(Ej T k m.1 rfl A w).a λC n s=>?_;refine ZY u C D rfl s ?_ ?_
    .by_cases z:C=D
     .exact .inl z
     .exact .inr ⟨z,λy=>(Ľ.mp T.nd).1 (by rw[y];exact mM0.mpr ⟨_,d,rfl⟩),_,(T.each.at d).2⟩
    .have G:decide _=decide _:=decide_eq_decide.mpr (T.inj n d B);rw[G];exact Post.val b k (xU _)
   .exact b.elim
  .exact b.elim
 .exact b.elim
def T7(T:XTab X.K X.mg M cs)(z:X.mg "isinstance"=none)(h:X.mg "ValueError"=none)(w:Gl X "isinstance")(d:Gl X "ValueError")(i:zR X W a f)(e:cs.map (·.1)=ns:=by rfl)
  (he:starEach [a,.Name "ValueError" p2] X.env=(false,eval a X.env)::starEach [.Name "ValueError" p2] X.env:=by rfl) (hp2:(backTo pos (starEach [.Name "ValueError" p2] X.env)).any (·.1)=false:=by rfl):
  zR X W (.Call (.Name "isinstance" p) [a,.Name "ValueError" p2] [] pos) (λρ S=>(f ρ S).bind (Oa ns)):=by
 subst e;refine i.a λF i y=>?_;refine Z8 _ (FB (Oc (M:=M)) w z PyProof.Rows.boot_isinstance (gU i (gU (Dk (v:=.ty "ValueError") d h ↑21 rfl ↑4 ↑4) sP) he) ↑4 ↑4 he hp2) (λα ρ S σ H Q o sl q=>y α ρ S σ H _ o sl (q.bind λu r E n D I m j k b=>?_))
 replace b:=b.shift m
 unfold Oa at b;split at b
 .rename_i l;split at b
  .rename_i c fs A;split at b
   .rename_i B;refine(Ej T j k.1 rfl A B).a λC G s=>?_;exact Z3 u C rfl s (Post.val b j (xU _))
   .exact b.elim
  .exact b.elim
 .exact b.elim
end
def Ld(g:Gm)(n:Nat)(F:↑25):Sp:=λb H Q E=> ∃α S a,Wd g α S H/\DenL g.K α H a b/\a.length=n/\Post g (WE g E) α H (F a S) Q
def xW(n:Nat)(F:List MV->Sto->R Er)(rs:List Er)(S:Sto):R Er:=if rs.length=n then(match F (zP rs S).1 (zP rs S).2 with
 |.ok r S2=>dY S r S2
 |.exc c fs S2=>if fs.all (λp=>LZ p.2)=true then(dY S (.val .non) S2).bind λ_ a=>.exc c fs a else .exc c fs S2
 |.no=>.no)else .no
section
variable{X:Cx}{pos:Pos}
def MB(w:Ext α H α1 H1)(i:Wd X.g α1 S1 H1)(B:ArgsE X.K H α1 H1 rs vs)(q:Post X.g (WE X.g E) α H (xW n F rs S1) Q):
  Ld X.g n F vs H1 Q E:=by
 unfold xW at q;split at q
 .rename_i W;refine(tT i w B).elim λj R=>R.k λu y N J=>?_;refine ZY j _ _ N J (by rw[CV];exact W) ?_
  cases z:F (zP rs S1).1 (zP rs S1).2 with
  |ok r S3=>
   rw[z]at q;intro v a e b h T;refine(TR w i y.pre u b h T).n λG L α' p o s A=>?_;have q:Post X.g _ α H (dY S1 r S3) Q:=q;rw[p]at q;exact q v α' e o s A
  |exc c fs S3=>
   rw[z]at q;dsimp only at q;split at q
   .rename_i O;intro a e b h C d k m;refine(TR w i y.pre u b h (DenE.val pH)).n λG L α' p o s A=>?_;rw[p]at q;exact q α' e o s C d k (m.imp id λ⟨I,U,S,D,P,M⟩=>(Y3 I U S D P (MA O M)))
   .exact λa e b h C d k m=>q a e (u.trans b) h C d k m
  |no=>rw[z]at q;exact q.elim
 .exact q.elim
end
section
variable{K:P0}
def zCM{st:Stmt}(Fb)(F:Fun K x qual st f fd)(u:FnScope N ps (zE st))
  (hbody: ∀ d  A  outer  s  H  E ,Room k (A.deeper (envOfC qual (zE st) ↑3 f d))->
   uP (JF (Ik P w) P w K mg base N qual (zE st) f d A outer s H E) (WE ⟨K,mg,P,w⟩ E) (wK st) Fb):
  FnOk P w K mg base (Ik P w) (k+1) f fd ps (Ld ⟨K,mg,P,w⟩ ps.length λds S=>yE (Fb (yA N ds) S)):=by
 refine F.ex.r λJ M kV n I G d O D g=>g.e λR p e=>?_;subst R;refine Zm p e u (λm H Q E h=>?_) λA outer s H m Q E j h=>?_
 .refine h.n λα S ds _ l i _=>?_;rw[l.length,i]
 .refine h.n λα S ds y l i q=>?_;refine(hbody d A outer s H E j).a λt o C=>?_;refine Z8 t o (C α _ S _ H _ y (BA l) ?_);dsimp only at q
  cases z:Fb _ S with
  |ok fl S'=>
   rw[z]at q
   cases fl with
   |next ρ=>exact λσ α' H' a b L=>q .non α' H' a b (DenE.val pH)
   |ret r=>exact λv α' H' a b B=>q v α' H' a b B
   |brk ρ=>exact q.elim
   |cont ρ=>exact q.elim
  |exc c fs S'=>rw[z]at q;exact λα' H' a b=>q α' H' a b
  |no=>rw[z]at q;exact q
def _root_.L2.FnOk.noX(G:FnOk P w K mg base (Ik P w) k f fd ps (Ld g n F)):FnOk P w K mg base EY k f fd ps (Ag g n F):=by
 have d: ∀{vs H Q}, ∀{E},Ag g n F vs H Q E->Ld g n F vs H Q E0:=λ⟨α,S,u,j,p,y,B⟩=>(ZY (α) S u j p y (B.wmono λ_ _ _ _ _ z=>z.elim))
 refine⟨λvs H Q E h=>G.len vs H Q E0 (d h),λA a s H b v vs Q E i q m o h=>Ė (G.run A a s H b v vs Q E0 i q m o (d h)) λr C c=>?_⟩
 cases r with
 |error e=>
  obtain⟨_,_,_,_,_,_,_,_,_,_,_,_,_,_,_,z⟩:=c;exact z
 |ok fl=>cases fl<;>exact c
end
end M
end L2
namespace L2
open PySem PySem.Spec PyProof.Rows
structure Out(X:Cx)(pins:L1)(H:Hp)(s:ŀ)(b:Addr):Prop where
 s0:X.s₀.heap.get? b=none
 h:H b=none
 pin: ∀p∈X.pn++pins,p.1≠b
 fld: ∃o vs,s.heap.get? b=some o/\o.data=.fields vs
section
variable{X:Cx}{H:Hp}{e b:Addr}
def Out.ne(o:Out X pins H s b)(a:s.heap.get? c=some oc)(nf: ∀vs,oc.data≠.fields vs):c≠b:=λz=>by refine o.fld.d λh vs d e=>?_;rw[z,d]at a;cases a;exact nf vs e
def Out.loc(o:Out X pins H s b)(I:↑1):X.env.locals≠b:=by refine I.loc.a λm g _=>?_;obtain ⟨d,es,e,a,c,_⟩:=g;exact o.ne a λh z=>by rw[c]at z;cases z
def Out.cell(o:Out X pins H s b)(I:↑1)(d:X.env.cells.lookup x=some c):c≠b:=by refine(I.cell x c d).d λv h a e=>?_;exact o.ne a λi z=>by rw[e]at z;cases z
def Inv.mvd(J:↑1)(q:X.ex=[])(m:Mvd (OL X.stack) e T s.heap h')(w:Out X pins H s e)(j:Out X pins H s T):Inv X pins σ H {s with heap:=h'}:=by
 obtain⟨u,C⟩:=J.moved q m w.s0 j.s0 w.h j.h;have I: ∀d,s.heap.Ns X.env.locals d->h'.Ns X.env.locals d:=λd A=>by refine A.m λo es G y r=>?_;obtain⟨sl,b⟩:=m.slot _ o (w.loc J) (j.loc J) y;exact Zf _ es G b r
 have cell: ∀x c,X.env.cells.lookup x=some c-> ∀v,s.heap.IsCell c v->h'.IsCell c v:=λx c a v D=>by refine D.a λo y F=>?_;obtain⟨sl,b⟩:=m.slot c o (w.cell J a) (j.cell J a) y;exact Z8 _ b F
 refine⟨J.ok,J.os,J.bare,by rw[q];exact u,?_,λx c a=>?_,J.free,J.freeC,λp B=>?_,C,J.len⟩
 .refine J.loc.a λd A M=>?_;refine Z8 d (I d A) (λi x v b L K=>?_);refine(M i x v b L K).a λu r l=>?_;exact Z8 u r (l.imp id λ⟨k,c,a,z⟩=>⟨k,c,a,cell x c a _ z⟩)
 .obtain⟨v,z⟩:=J.cell x c a;exact⟨v,cell x c a v z⟩
 .refine(J.pin p B).h λb n ne nf E=>?_;refine⟨m.keep p.1 p.2 (w.pin p B) (j.pin p B) (λz=>?_) b,n,ne,nf,E⟩;rcases mC.mp (J.stkSub _ z)with z|z
  .exact ne z
  .exact nf z
def Inv.trackU(J:↑1)(o:Out X pins H s e)(k:ObjOk X.prog X.w (yQ H e ho) s.heap e ho):Inv X pins σ (yQ H e ho) s:=by
 refine⟨J.ok,J.os,J.bare,⟨J.base.keep,J.base.slot,λb a q n m=>?_,J.base.there,λb xs q=>?_,λb i u q=>?_,λb ps q=>?_⟩,J.loc,J.cell,?_,λx c j=>?_,λp d=>?_,λb u q=>?_,J.len⟩
 .rw[zH λz=>by rw[z,o.s0]at q;cases q];exact J.base.free b a q n m
 .rw[zH (zT (J.base.tups b xs q) o.h)];exact J.base.tups b xs q
 .rw[zH (zT (J.base.frzs b i u q) o.h)];exact J.base.frzs b i u q
 .obtain⟨y,z⟩:=J.base.tbls b ps q;exact⟨y,by rw[zH (zT z o.h)];exact z⟩
 .rw[zH (o.loc J)];exact J.free
 .rw[zH (o.cell J j)];exact J.freeC x c j
 .refine(J.pin p d).h λA n ne nf v=>?_;exact⟨A,by rw[zH (o.pin p d)];exact n,ne,nf,v⟩
 .by_cases z:b=e
  .subst z;rw[zI]at q;cases q;exact k
  .rw[zH z]at q;exact(J.hok b u q).stay (λ_ _ _ r=>r) (λc r=>by rw[zH (zT r o.h)];exact r) λc xs r=>by rw[zH (zT r o.h)];exact r
def Inv.track(J:↑1)(o:Out X pins H s e)(a:s.heap.get? e=some ob):Inv X pins σ (yQ H e (.frz ob (.ext λh=>h.get? e=some ob))) s:=J.trackU o ⟨a,a,⟨ob,a⟩,λ_ _ p k=>k _ p⟩
structure Hv where
 e:Addr
 H:Hp
 ob:Obj
 u:HO
 h:H e=some (.frz ob u)
 c: ∃vs,ob.data=.fields vs/\vs[2]? =some .none
abbrev Cx.inH(X:Cx)(v:Hv):Cx:={X with A:=X.A.mark (some (.ref v.e)),calm:=false,xe:=λ_ _=>False,H₀:=v.H}
abbrev Cx.inM(X:Cx)(v:Value):Cx:={X with A:=X.A.mark (some v),calm:=false,xe:=λ_ _=>False}
def Inv.inM(I:↑1)(v):Inv (X.inM v) pins σ H s:=⟨⟨I.ok.mod,I.ok.kind,I.ok.glob,I.ok.blt,I.ok.above,I.ok.inj,I.ok.has,I.ok.cab,λz=>(by cases z),I.ok.frames,I.ok.stk,I.ok.exf,I.ok.bs,I.ok.bsz,I.ok.noex,I.ok.exfs,I.ok.funs,I.ok.frf⟩,I.os,I.bare,I.base,I.loc,I.cell,I.free,I.freeC,I.pin,I.hok,I.len⟩
def HdA(A:Around)(H:Hp):Prop:= ∃e a u,A.handled=some (.ref e)/\H e=some (.frz a u)/\ ∃b,a.data=.fields b/\b[2]? =some .none
abbrev Wh(X:Cx):Prop:=HdA X.A X.H₀
def HdA.now(h:Wh X)(I:↑1):HdA X.A H:=let ⟨e,d,u,b,a,c⟩:=h;(Y3 e d u b (I.base.frzs _ _ _ a) c)
def zCN:Wh (X.inH v):=(Y3 v.e v.ob v.u rfl v.h v.c)
def Inv.inH(I:↑1)(a:v.H=yQ X.H₀ v.e (.frz v.ob v.u))(n:X.s₀.heap.get? v.e=none)(i:H v.e=some (.frz v.ob v.u)):Inv (X.inH v) pins σ H s:=by
 have ne: ∀b o,X.s₀.heap.get? b=some o->v.H b=X.H₀ b:=λb o q=>by rw[a,zH λz=>by rw[z,n]at q;cases q]
 have c: ∀b w,v.H b=some w->(∀o u,w≠.frz o u)->X.H₀ b=some w:=λb w q k=>by
  by_cases z:b=v.e
  .rw[z,v.h]at q;exact absurd (å q).symm (k _ _)
  .rw[a,zH z]at q;exact q
 refine⟨⟨I.ok.mod,I.ok.kind,I.ok.glob,I.ok.blt,I.ok.above,I.ok.inj,I.ok.has,I.ok.cab,λz=>(by cases z),I.ok.frames,I.ok.stk,I.ok.exf,λb o q=>?_,I.ok.bsz,I.ok.noex,I.ok.exfs,I.ok.funs,λb q=>?_⟩,I.os,I.bare,⟨λb o q k=>?_,λb o q k=>?_,λb o q k=>?_,I.base.there,λb xs q=>I.base.tups b xs (c b _ q λ_ _ z=>by cases z),λb o u q=>?_,λb ps q=>I.base.tbls b ps (c b _ q λ_ _ z=>by cases z)⟩,I.loc,I.cell,I.free,I.freeC,I.pin,I.hok,I.len⟩
 .obtain⟨d,j⟩:=I.ok.bs b o q;exact⟨d,(ne b o d).trans j⟩
 .obtain⟨_,o,m,_⟩:=I.ok.funs.mem q;exact(ne b o m).trans (I.ok.frf b q)
 .exact I.base.keep b o q ((ne b o q).symm.trans k)
 .exact I.base.slot b o q ((ne b o q).symm.trans k)
 .exact I.base.free b o q ((ne b o q).symm.trans k)
 .by_cases z:b=v.e
  .subst z;have q:v.H v.e=some _:=q;rw[v.h]at q;cases q;exact i
  .have q:v.H b=some _:=q;rw[a,zH z]at q;exact I.base.frzs b o u q
def Inv.outH(J:Inv X pins σ0 H0 s0)(d:v.H=yQ X.H₀ v.e (.frz v.ob v.u))(n:X.s₀.heap.get? v.e=none)(a:H0 v.e=none)(I:Inv (X.inH v) pins σ H s):Inv X pins σ H s:=by
 have ne: ∀b o,X.s₀.heap.get? b=some o->v.H b=X.H₀ b:=λb o q=>by rw[d,zH λz=>by rw[z,n]at q;cases q]
 have c: ∀b w,X.H₀ b=some w->b≠v.e->v.H b=some w:=λb w q k=>by rw[d,zH k];exact q
 refine⟨J.ok,I.os,I.bare,⟨λb o q k=>I.base.keep b o q ((ne b o q).trans k),λb o q k=>I.base.slot b o q ((ne b o q).trans k),λb o q k=>I.base.free b o q ((ne b o q).trans k),I.base.there,λb xs q=>I.base.tups b xs (c b _ q λz=>?_),λb o u q=>I.base.frzs b o u (c b _ q λz=>?_),λb ps q=>I.base.tbls b ps (c b _ q λz=>?_)⟩,I.loc,I.cell,I.free,I.freeC,I.pin,I.hok,I.len⟩
 .have:=J.base.tups b xs q;rw[z,a]at this;cases this
 .have:=J.base.frzs b o u q;rw[z,a]at this;cases this
 .obtain⟨_,this⟩:=J.base.tbls b ps q;rw[z,a]at this;cases this
theorem name_goes(I:↑1)(U:X.N.Nodup)(hi:X.N[i]? =some x)(hk:X.env.kindOf x=some .local)
  (h: ∀T,Inv X pins (σ.set i none) H T->Q () T):wpAny M A (do bindName X.env x .none;unbindBehindTheSuite X.env x pos) Q E s:=by
 refine(id I.loc).a λm Y P=>?_;have B:(X.env.scope.kind==.class || (X.env.scope.kind==.module&&X.env.locals !=X.env.globals))=false:=by rw[I.ok.kind];rfl
 refine wpAny_nameGoes_keeps hk Y B λh' v C hs=>h _ ?_;have keep: ∀b o,b≠X.env.locals->s.heap.get? b=some o->h'.get? b=some o:=λb o z q=>(hs.2 b z).trans q;have D: ∀b o,X.s₀.heap.get? b=some o->b≠X.env.locals:=λb o e=>ê (é (ã e) I.ok.above);refine(id C).m λaa _ _ J _=>?_
 have there: ∀b o,s.heap.get? b=some o-> ∃L,h'.get? b=some L:=λb o q=>by
  by_cases z:b=X.env.locals
  .rw[z];exact⟨_,J⟩
  .exact⟨o,keep b o z q⟩
 refine⟨I.ok,I.os,I.bare,⟨λb o e n G w=>keep b o (D b o e) (I.base.keep b o e n G w),λb o e n G w=>?_,I.base.free,λb o e w=>?_,I.base.tups,I.base.frzs,I.base.tbls⟩,(Z8 _ C (λj y v' a d e3=>?_)),λy c e=>?_,I.free,I.freeC,λp Z=>?_,λb u q=>?_,by rw[ą];exact I.len⟩
 .obtain⟨sl,a⟩:=I.base.slot b o e n G w;exact⟨sl,keep b _ (D b o e) a⟩
 .obtain⟨L,a⟩:=I.base.there b o e w;exact there b L a
 .have S:j≠i:=λz=>by
   subst z;by_cases P:j<σ.length
   .rw[č P]at d;cases d
   .rw[getElem?_eq_none (by rw[ą];lia)]at d;cases d
  rw[Ĉ (Ne.symm S)]at d;refine(P j y v' a d e3).a λu r q=>?_;refine Z8 u r ?_;have F:y≠x:=λz=>S (KP U a (z▸hi));rcases q with⟨k,q⟩|⟨k,c,e,z⟩
  .exact .inl ⟨k,by simp[F,q]⟩
  .exact .inr ⟨k,c,e,z.sameBut hs (I.cne y c e)⟩
 .obtain⟨K,z⟩:=I.cell y c e;exact⟨K,z.sameBut hs (I.cne y c e)⟩
 .refine(I.pin p Z).h λe n ne nf W=>?_;exact⟨keep p.1 p.2 ne e,n,ne,nf,W⟩
 .refine(I.hok b u q).stay (λc K O r=>keep c K (λz=>?_) r) (λ_ q=>q) λ_ _ q=>q
  have: ∃y,H c=some y:=by
   rcases O with rfl|O
   .exact⟨_,q⟩
   .exact⟨_,O⟩
  obtain⟨y,F⟩:=this;rw[z,I.free]at F;cases F
end
def Bp{os:OsState}(O:tR h C M)(c:h.get? e=some oe)(k:oe.cls=.ref C)
  (hq:Q true ⟨h,g,d,t,os⟩):wpAny Mo A (excMatches (.ref e) (.ref M)) Q E ⟨h,g,d,t,os⟩:=by
 have i:(Value.ref C::.ref M::qC).contains (.ref M)=true:=by simp[ĉ]
 have f:=(show isSubtype (.type "type") (.type "tuple")=pure false by rw[isSubtype_type];kernel_rfl);have b:=O;obtain⟨_,_,_,_,_,_,_,_,_,_,_,_,_,_,_,_,_,_,_,_,_,_,_,_,_,_,_,_,_,_,_,_,_,_,_,_,_,a,_⟩:=O;have j:(Value.ref M::qC).contains (.type "BaseException")=true:=by simp[ĉ]
 unfold excMatches
 repeat (first |(with_reducible refine ì c ?_;rw[k])|with_reducible refine ì a ?_|(with_reducible refine tS b ?_;rw[i])|(with_reducible refine wpAny_isSubtype_exc a ?_;rw[j])|wp_step)
 exact hq
end L2
namespace L2
namespace M
open PySem PySem.Spec PyProof.Rows
def Slots.unset{K:P0}(q:Slots K α H ρ σ)(i):Slots K α H (ρ.set i none) (σ.set i none):=by
 refine⟨by rw[ą,ą];exact q.len,λj d e=>?_⟩;rcases Du e with⟨_,z,_⟩|⟨hj,e'⟩
 .cases z
 .obtain⟨v,a,b⟩:=q.slot j d e';exact⟨v,by rw[Ĉ (Ne.symm hj)];exact a,b⟩
noncomputable def zCP(i:Nat):Fl->Sto->R Fl
 |.next ρ,S=>.ok (.next (ρ.set i none)) S
 |.ret r,S=>.ok (.ret r) S
 |.brk ρ,S=>.ok (.brk (ρ.set i none)) S
 |.cont ρ,S=>.ok (.cont (ρ.set i none)) S
def OS(ns:C0)(i:Nat)(a:Er->Sto->R Fl)(b:AY)(ρ:Rho):R Er->R Fl
 |.ok r S=>a r S
 |.exc c fs S=>if c∈ns then(noX (b (ρ.set i (some (.loc S.length))) (S++[.ins c fs]))).bind (zCP i)else .no
 |.no=>.no
def PostS.exprX[Dn β τ]{k:β->Sto->R Fl}(q:PostS g W α H D ((noX m).bind k))
  (f: ∀u b S1 v z,m=.ok b S1->Ext α H v z->Wd g v S1 z->Dn.d g H v S1 z b u->PostS g W α H D (k b S1)->Q' u z):Post g W0 α H m Q':=by
 cases m with
 |ok b S=>exact λu v z x w d=>f u b S v z rfl x w d q
 |exc c fs S=>exact q.elim
 |no=>exact q
def E2(X:Cx)(W:XW)(ns:C0)(i:Nat)(e:AY)(ρ:Rho)(α:B9)(H:Hp)(D:Ends):XK:=λb d H'=> ∃c fs a α' C,b=.ref C/\X.mg c=some (.ref C)/\Ext α H α' H'/\Wd X.g α' a H'/\FsD X.g α' H' d fs/\
 PostS X.g W α H D (if c∈ns then(noX (e (ρ.set i (some (.loc a.length))) (a++[.ins c fs]))).bind (zCP i)else .no)
section
variable{s:ŀ}
def T8(T:XTab X.K X.mg M cs)(ai:Gl X "MendError")(hN:X.N.Nodup)(hi:X.N[i]? =some nm)(Z:X.env.kindOf nm=some .local)(G: ∀v,uP (X.inH v) W0 (b0::suite) Fh)(B:X.ex=[])(k:X.stack=X.env::X.outer)(ax:X.env.frame=some X.env.locals)
  (sl:Slots X.K α H ρ σ) (I1:Inv X pins σ H1 s1)  (hq:Ik X.prog X.w X.stack H1 s1 (E2 X W (cs.map (·.1)) i Fh ρ α H D) x s'):
  wpAny ↑5 X.A (noteFrame x X.env) (λ_ s₂=>wpAny ↑5 X.A (setFlight x none) (λ_ s₃=>wpAny ↑5 X.A (handleBy x X.env [.ExceptHandler (some (.Name "MendError" mp)) (some nm) (b0::suite) hpos]) (SP X pins D) X.xe s₃) X.xe s₂) X.xe s':=by
 obtain⟨e,Tb,C,d,H',rfl,os,aa,un,aw,fl,ne,nT,he,hT,c,fs,S2,α',C',eC,P,xx,w2,hf,q⟩:=hq;cases eC;split at q
 .rename_i ae;have J:Inv X pins σ H' s':=I1.call' (ch:=[]) os un aw aa (λ_ z=>nomatch z);have ao:X.A.frames=some (X.env::X.outer):=by rw[<-k];exact J.ok.frames
  have hl:s'.heap.FunFrames X.base (X.env::X.outer):=by rw[<-k];exact J.stack
  have b:Out X pins H' s' e:=by refine(id fl).o λa E _ _ y _ _ o _=>?_;exact⟨I1.older B ne,he,λp hp z=>(by have:=(I1.pin p hp).1;rw[z,ne]at this;cases this),a,E,y,o⟩
  have oT:Out X pins H' s' Tb:=by refine(id fl).i λ_ _ a ts R=>R.v λ_ _ _ _ _ _ y o _=>?_;exact⟨I1.older B nT,hT,λp hp z=>(by have:=(I1.pin p hp).1;rw[z,nT]at this;cases this),a,ts,y,o⟩
  refine QL ao hl ax fl λh3 T3 n3 m3 f3=>?_;rw[<-k]at m3;have J3:=J.mvd B m3 b oT;have a0:Out X pins H' {s' with heap:=h3} e:=by refine(id f3).o λa E _ _ y _ _ o _=>?_;exact⟨b.s0,b.h,b.pin,a,E,y,o⟩
  have I:Out X pins H' {s' with heap:=h3} T3:=by refine(id f3).i λ_ _ a ts a1=>a1.v λ_ _ _ _ _ _ y o _=>?_;exact⟨J.older B n3,J.hok.none_of n3,λp hp z=>(by have:=(J.pin p hp).1;rw[z,n3]at this;cases this),a,ts,y,o⟩
  refine rH (env:=X.env) (outer:=X.outer) f3 λh4 m4 f4=>?_;rw[<-k]at m4;have J4:=J3.mvd B m4 a0 I;have ah:Out X pins H' {s' with heap:=h4} e:=by refine(id f4).o λa E _ _ y _ _ o _=>?_;exact⟨b.s0,b.h,b.pin,a,E,y,o⟩
  have az:Out X pins H' {s' with heap:=h4} T3:=by refine(id f4).i λ_ _ a ts a2=>a2.v λ_ _ _ _ _ _ y o _=>?_;exact⟨I.s0,I.h,I.pin,a,ts,y,o⟩
  have aj: ∃i,DL X.K C (.ref M::qC) i:=by
   refine(mM0.mp ae).a λac ar ad=>?_;obtain ⟨c',C'⟩:=ac;subst ad;obtain⟨q1,q2⟩:=T.each.at ar;have:C=C':=by rw[P]at q1;cases q1;rfl
   rw[this];exact q2
  obtain⟨a3,cC⟩:=aj;refine wpAny_handleBy_cons (codeAny_handlers_test (pE (X:=X.inM (.ref e)) (J4.inM (.ref e)) ai T.m ?_)) (by intro z;cases z);refine(id f4).i λa4 _ _ _ a5=>a5.e λau av _=>?_;refine Bp (uY J4.kIn cC T.mc) au av ?_;refine codeAny_handlers_suite_as ?_;refine rH (env:=X.env) (outer:=X.outer) (s:={s' with heap:=h4}) f4 λh5 m5 f5=>?_;rw[<-k]at m5;have J5:=J4.mvd B m5 ah az;obtain⟨a,E,_,_,y,ab,aq,o,_,_,_,_,_,ay⟩:=id f5;have ag:Out X pins H' {s' with heap:=h5} e:=⟨b.s0,b.h,b.pin,a,E,y,o⟩
  have J6:=J5.track ag y
  have xw:=w2.put (m:=.ins c fs) b.h (by
   rcases hf with rfl|⟨dx,gs,od,hd1,hd2,hd3⟩
   .exact⟨C,[],P,.nil,a,zI,ab,.inl rfl⟩
   .have ak:Ext α' H' α' (yQ H' e (.frz a (.ext λh=>h.get? e=some a))):=w2.newx b.h;exact⟨C,gs,P,(hd3.ex0 ak.toEx0).ex0 (Ex0.grow _ _ _),a,zI,ab,.inr ⟨dx,od,aq.trans hd1,(by rw[zH (zT hd2 b.h)];exact hd2),E,o⟩⟩)
  let V:Hv:=⟨e,yQ X.H₀ e (.frz a (.ext λh=>h.get? e=some a)),a,_,zI,E,o,ay⟩
  refine FA (X:=X.inH V) (J6.inH (v:=V) rfl b.s0 zI) hN hi (.inl Z) (v:=.ref e) rfl (λs7 J7=>?_) (.inr Z);refine(G V).a λth af kh=>?_;let D':Ends:={nx:=λσ H=>D.nx (σ.set i none) H,rt:=D.rt,bk:=λσ H=>D.bk (σ.set i none) H,ct:=λσ H=>D.ct (σ.set i none) H}
  have F:PostS X.g W (α'++[e]) _ D _:=PostS.shift (xx.trans xw.1) q
  have ht:th D' (σ.set i (some (.ref e))) (yQ H' e (.frz a (.ext λh=>h.get? e=some a))):=by
   refine kh (α'++[e]) (ρ.set i (some (.loc S2.length))) (S2++[.ins c fs]) _ _ D' xw.2 (((sl.ext xx).ext xw.1).set (pI (by rw[<-w2.len,è (à _),sub_self];rfl))) ?_
   cases z:Fh (ρ.set i (some (.loc S2.length))) (S2++[.ins c fs])with
   |ok fl S8=>
    rw[z]at F
    cases fl with
    |next ρ8=>exact λj n r U S Y=>F (j.set i none) n r U S (Y.unset i)
    |ret r8=>exact λv8 n r U S d8=>F v8 n r U S d8
    |brk ρ8=>exact λj n r U S Y=>F (j.set i none) n r U S (Y.unset i)
    |cont ρ8=>exact λj n r U S Y=>F (j.set i none) n r U S (Y.unset i)
   |exc c8 fs8 S8=>rw[z]at F;exact F.elim
   |no=>rw[z]at F;exact F.elim
  refine ò (af pins s7 _ _ D' J7 ht) (λf Y hs=>?_) λ_ _ z=>z.elim;show wpAny _ _ _ _ _ _
  cases f with
  |next=>
   obtain⟨j,r,O,L⟩:=hs;exact name_goes (J.outH (v:=V) rfl b.s0 b.h O) hN hi Z λs9 Q=>(Z0 _ r Q L)
  |brk=>
   obtain⟨j,r,O,L⟩:=hs;exact name_goes (J.outH (v:=V) rfl b.s0 b.h O) hN hi Z λs9 Q=>(Z0 _ r Q L)
  |cont=>
   obtain⟨j,r,O,L⟩:=hs;exact name_goes (J.outH (v:=V) rfl b.s0 b.h O) hN hi Z λs9 Q=>(Z0 _ r Q L)
  |ret u=>
   refine hs.l λv8 j r a6=>a6.e λO r8 L=>?_;exact name_goes (J.outH (v:=V) rfl b.s0 b.h O) hN hi Z λs9 Q=>(Y3 v8 _ r Q r8 L)
 .exact q.elim
end
section
variable{af:↑43}
def Oe(G:FnOk X.prog X.w X.K X.mg X.base (Ik X.prog X.w) k fa fd ps (Ld X.g n F))(h:Room k X.A)(o:Gl X x)(v:X.mg x=some (.ref fa))(j:PySem.W.keepIn X.K (.ref fa)=true)(i:Binds X.K fd ps [])
  (ha:PA X.nox (e::es) ta) (I:↑1) (ht:ta σ H λvs d=>Ld X.g n F vs d Q E) (hx: ∀d s1 x m,Inv X pins σ d s1->Ik X.prog X.w X.stack d s1 E x m->Ex x m) (hdb:↑35=false)
  (he:starEach (e::es) X.env=(false,eval e X.env)::starEach es X.env) (hpl:(backTo cpos (starEach es X.env)).any (·.1)=false):
  wpAny ↑5 X.A (eval (.Call (.Name x p) (e::es) [] cpos) X.env) (EP X pins σ Q) Ex s:=by
 refine ķ (pE I o v ?_ hdb);refine PySem.W.callWith_K I.ok.mod.kin j (ò (ha cpos pins s σ H _ (I.wish _) ht) (λc s1 ⟨vs,d,I1,r,q⟩=>⟨I1.unwish.kIn,?_⟩) λ_ _ z=>z.elim) he hpl;have b:=I1.unwish;have B:c.length=ps.length:=by rw[<-r.length];exact G.len _ _ _ _ q
 refine wpAny_call (Ė (G.run X.A X.stack s1 d ⟨c,[]⟩ c vs Q E h b.env0 ?_ r q) λr m a=>?_)
 .have:=i s1 c b.kIn (by rw[aN];exact B);rw[aN]at this;exact this
 .cases r with
  |error y=>exact hx d s1 y m b a
  |ok fl=>
   cases fl with
   |ret u=>exact b.after a
   |next=>exact False.elim a
   |brk=>exact False.elim a
   |cont=>exact False.elim a
def Of{k:TA}(B: ∀α ρ S σ H Q,Wd X.g α S H->Slots X.K α H ρ σ->Post X.g W0 α H (af ρ S) Q->k σ H Q)(A:↑31)(sl:Slots X.K α H ρ σ)
  (q:PostS X.g W α H D ((noX (af ρ S)).bind λrs S1=>OS ns i kn Fh ρ (xW n F rs S1))) (hkn: ∀r S1 u m v,PostS X.g W α H D (kn r S1)->Ext α H m v->Wd X.g m S1 v->DenE X.K H m v r u->Q u v):
  k σ H λvs v=>Ld X.g n F vs v Q (E2 X W ns i Fh ρ α H D):=by
 refine B α ρ S σ H _ A sl (q.exprX λvs rs S1 m v G s o p b=>MB s o p ?_)
 cases z:xW n F rs S1 with
 |ok r S2=>rw[z]at b;exact λu a j h e E=>hkn r S2 u a j b h e E
 |exc c fs S2=>rw[z]at b;exact λa j h e C d w y=>(Yt c fs S2 a C rfl w h e y b)
 |no=>rw[z]at b;exact b.elim
end
def xcl_mk{K:P0}
  (l:K.lookup C=some (excClassObj nm q C N bs bm hd sn sub ab col dd k0 k1 k2 k3 k5 "ValueError.__new__")) (n:K.lookup N=some ⟨oc,od,.dict es ep,sl⟩) (o:(es.toList.all λe=>match e.key with |.str _ _=>true|_=>false)=true)
  (i:PySem.W.nsIn K N "__init__"=some init) (q1:PySem.W.nsIn K N "__class__"=some none) (q2:PySem.W.nsIn K N "__getattribute__"=some none) (q3:PySem.W.nsIn K N "__getattr__"=some none)
  (q4:PySem.W.nsIn K N "__setattr__"=some none) (q5:PySem.W.nsIn K N "place"=some none) (q6:PySem.W.nsIn K N "ring"=some none) (hh:hd=true):DL K C bm init:=by
 refine⟨nm,q,N,bs,hd,sn,sub,ab,col,dd,k0,k1,k2,k3,k5,l,?_,i,λy a=>?_,hh⟩
 .unfold PySem.W.nsOkIn;rw[n];rw[Array.all_toList]at o;exact o
 .simp only[qn,mC,nM,or_false]at a;rcases a with rfl|rfl|rfl|rfl|rfl|rfl<;>assumption
end M
end L2
namespace Srt
open PySem PyProof.Rows
def Ek:Bool->Keyed->Array Keyed->Nat->Nat->Nat->StateT SortSt Sem (Option Nat):=sortPriv% PySem.Builtin.gallop
def DT:Nat->StateT SortSt Sem Unit:=sortPriv% PySem.Builtin.setMinGallop
section
def XS{st:σ}(h:Q () st):wpS M A E s (liftM (rule x)) Q st:=wpS_lift (wpAny_rule ⟨rfl,h⟩)
end
end Srt
namespace Srt
variable{β:Type}{le:β->β->Prop}
structure Two(le:β->β->Prop)(T out xs ys:List β):Prop where
 hx:(out++xs).Pairwise le
 hy:(out++ys).Pairwise le
 pm:(out++(xs++ys)).Perm T
structure TwoR(le:β->β->Prop)(T xs ys R:List β):Prop where
 hx:(xs++R).Pairwise le
 hy:(ys++R).Pairwise le
 pm:(xs++ys++R).Perm T
end Srt
namespace Srt
open PySem PyProof.Rows
abbrev SM:=StateT SortSt Sem
abbrev G3:=Option (Option Nat)×Nat×Nat
end Srt
namespace Srt
open PySem PyProof.Rows
section
variable{M:Model}{A:Around}{E:VP}{s:ŀ}
structure Cmp(M:Model)(A:Around)(E:VP)(s:ŀ)(kd:SortKind)(D:Keyed->Prop)(lt:Keyed->Keyed->Bool):Prop where
 go: ∀x y,D x->D y-> ∀st:SortSt,kindOf st=kd-> ∀Q:Option Bool->SortSt->Prop,Q (some (lt x y)) st->wpS M A E s (lt' x y) Q st
 tr: ∀x y z,lt y x=false->lt z y=false->lt z x=false
 as: ∀x y,lt x y=true->lt y x=false
abbrev Le(lt:↑20)(x y:Keyed):Prop:=lt y x=false
def Cmp.rf(C:↑48)(x):Le lt x x:=by
 show lt x x=false
 cases h:lt x x with
 |false=>rfl
 |true=>exact absurd h (by rw[C.as x x h];simp)
def SL(lt:↑20)(l:List Keyed)(b n:Nat):Prop:= ∀i j x y,i<=j->j<n->l[b+i]? =some x->l[b+j]? =some y->lt y x=false
def El{st:SortSt}(e:v.toList[i]? =some x)(h:Q x st):wpS M A E s (elem' v i) Q st:=by
 rw[elem'_eq];have:v[i]? =some x:=by rw[<-û];exact e
 rw[this];exact wpS_pure h
def Zz{v:Array Keyed}(h:i<v.size): ∃x,v.toList[i]? =some x:=⟨v.toList[i]'(by simpa using h),gE _⟩
end
end Srt
namespace Srt
open PySem PyProof.Rows
abbrev V:=Array Keyed
abbrev L6:=Option V×V×Nat×Nat×Nat×Nat
noncomputable abbrev dnL(a b o:V)(i j:Nat):V:=o++a.extract i a.size++b.extract j b.size
noncomputable abbrev laL(a b o:V)(i j:Nat):V:=o++b.extract j b.size++a.extract i a.size
def one1(a b:V)(g:Nat)(c:L6):SM (ForInStep L6):=
 elem' b c.2.2.2.1 >>= λy=>elem' a c.2.2.1 >>= λx=>lt' y x >>= λr=>match r with
  |some q=>if q=true then elem' b c.2.2.2.1 >>= λy=>
     if(c.2.2.2.1+1==b.size)=true then pure (.done (some (dnL a b (c.2.1.push y) c.2.2.1 (c.2.2.2.1+1)),c.2.1.push y,c.2.2.1,c.2.2.2.1+1,0,c.2.2.2.2.2+1))
     else if c.2.2.2.2.2+1>=g then pure (.done (none,c.2.1.push y,c.2.2.1,c.2.2.2.1+1,0,c.2.2.2.2.2+1))
     else pure (.yield (none,c.2.1.push y,c.2.2.1,c.2.2.2.1+1,0,c.2.2.2.2.2+1))
    else elem' a c.2.2.1 >>= λx=>
     if(c.2.2.1+1+1==a.size)=true then pure (.done (some (laL a b (c.2.1.push x) (c.2.2.1+1) c.2.2.2.1),c.2.1.push x,c.2.2.1+1,c.2.2.2.1,c.2.2.2.2.1+1,0))
     else if c.2.2.2.2.1+1>=g then pure (.done (none,c.2.1.push x,c.2.2.1+1,c.2.2.2.1,c.2.2.2.2.1+1,0))
     else pure (.yield (none,c.2.1.push x,c.2.2.1+1,c.2.2.2.1,c.2.2.2.2.1+1,0))
  |_=>pure (.done (some (dnL a b c.2.1 c.2.2.1 c.2.2.2.1),c.2.1,c.2.2.1,c.2.2.2.1,c.2.2.2.2.1,c.2.2.2.2.2))
def in1(a b:V)(t g:Nat)(c:L6):SM L6:=forIn [0:t] c λ_ c=>one1 a b g c
end Srt
namespace Srt
open PySem PyProof.Rows
def Sg(st a:SortSt):Prop:= ∃g,a=SortSt.mk' (kindOf st) (arrOf st) (pendingOf st) g (failedOf st)
theorem Sg.kind{st:SortSt}(h:Sg st st'):kindOf st'=kindOf st:=by obtain⟨g,rfl⟩:=h;rfl
section
abbrev TwoA(lt:↑20)(a b o:V)(i j:Nat):Prop:=Two (Le lt) (a.toList++b.toList) o.toList (a.toList.drop i) (b.toList.drop j)
def FinA(lt:↑20)(a b r:V):Prop:=r.toList.Pairwise (Le lt)/\r.toList.Perm (a.toList++b.toList)
def TwoA.sa(h:TwoA lt a b o i j):(a.toList.drop i).Pairwise (Le lt):=(List.pairwise_append.mp h.hx).2.1
def I1(lt:↑20)(a b o:V)(i j:Nat):Prop:=i+1<a.size/\j<b.size/\TwoA lt a b o i j
end
end Srt
namespace Srt
open PySem PyProof.Rows
abbrev H5:=Option V×Nat×Nat×V×Nat
abbrev H6:=Option V×Nat×Nat×V×Nat×Nat
abbrev H7:=Option V×Nat×Nat×V×Nat×Nat×Nat
noncomputable abbrev T9(a b o:V)(i j:Nat):V:=a.extract 0 i++b.extract 0 j++o.reverse
noncomputable abbrev fbH(a b o:V)(i j:Nat):V:=b.extract 0 j++a.extract 0 i++o.reverse
def hone(a b:V)(g:Nat)(c:H6):SM (ForInStep H6):=
 elem' b (c.2.2.1 - 1) >>= λy=>elem' a (c.2.1 - 1) >>= λx=>lt' y x >>= λr=>match r with
  |some q=>if q=true then elem' a (c.2.1 - 1) >>= λx=>
     if(c.2.1 - 1==0)=true then pure (.done (some (T9 a b (c.2.2.2.1.push x) (c.2.1 - 1) c.2.2.1),c.2.1 - 1,c.2.2.1,c.2.2.2.1.push x,c.2.2.2.2.1+1,0))
     else if c.2.2.2.2.1+1>=g then pure (.done (none,c.2.1 - 1,c.2.2.1,c.2.2.2.1.push x,c.2.2.2.2.1+1,0))
     else pure (.yield (none,c.2.1 - 1,c.2.2.1,c.2.2.2.1.push x,c.2.2.2.2.1+1,0))
    else elem' b (c.2.2.1 - 1) >>= λy=>
     if(c.2.2.1 - 1==1)=true then pure (.done (some (fbH a b (c.2.2.2.1.push y) c.2.1 (c.2.2.1 - 1)),c.2.1,c.2.2.1 - 1,c.2.2.2.1.push y,0,c.2.2.2.2.2+1))
     else if c.2.2.2.2.2+1>=g then pure (.done (none,c.2.1,c.2.2.1 - 1,c.2.2.2.1.push y,0,c.2.2.2.2.2+1))
     else pure (.yield (none,c.2.1,c.2.2.1 - 1,c.2.2.2.1.push y,0,c.2.2.2.2.2+1))
  |_=>pure (.done (some (T9 a b c.2.2.2.1 c.2.1 c.2.2.1),c.2.1,c.2.2.1,c.2.2.2.1,c.2.2.2.2.1,c.2.2.2.2.2))
def hin1(a b:V)(t g:Nat)(c:H6):SM H6:=forIn [0:t] c λ_ c=>hone a b g c
def hw4(a b o:V)(i j g p q:Nat):SM (ForInStep H7):=
 elem' a (i - 1) >>= λx=>if(i - 1==0)=true then pure (.done (some (T9 a b (o.push x) (i - 1) j),i - 1,j,o.push x,g,p,q))
  else if(decide (p<7)&&decide (q<7))=true then pure (.done (none,i - 1,j,o.push x,g,p,q))else pure (.yield (none,i - 1,j,o.push x,g,p,q))
def zEK(a b o:V)(i j g p q:Nat):SM (ForInStep H7):=
 elem' b (j - 1) >>= λy=>if(j - 1==1)=true then pure (.done (some (fbH a b (o.push y) i (j - 1)),i,j - 1,o.push y,g,p,q))
  else elem' a (i - 1) >>= λx=>Ek true x b 0 (j - 1) (j - 1 - 1) >>= λr=>match r with
   |some k=>if j - 1 - k>0 then
      if(k==1)=true then pure (.done (some (fbH a b (o.push y++(b.extract k (j - 1)).reverse) i k),i,k,o.push y++(b.extract k (j - 1)).reverse,g,p,j - 1 - k))
      else if(k==0)=true then pure (.done (some (T9 a b (o.push y++(b.extract k (j - 1)).reverse) i k),i,k,o.push y++(b.extract k (j - 1)).reverse,g,p,j - 1 - k))
      else hw4 a b (o.push y++(b.extract k (j - 1)).reverse) i k g p (j - 1 - k)
     else hw4 a b (o.push y) i (j - 1) g p (j - 1 - k)
   |_=>pure (.done (some (T9 a b (o.push y) i (j - 1)),i,j - 1,o.push y,g,p,q))
def hw2(a b o:V)(i j g p q:Nat):SM (ForInStep H7):=
 DT g >>= λ_=>elem' b (j - 1) >>= λy=>Ek false y a 0 i (i - 1) >>= λr=>match r with
  |some k=>if i - k>0 then
     if(k==0)=true then pure (.done (some (T9 a b (o++(a.extract k i).reverse) k j),k,j,o++(a.extract k i).reverse,g,i - k,q))
     else zEK a b (o++(a.extract k i).reverse) k j g (i - k) q
    else zEK a b o i j g (i - k) q
  |_=>pure (.done (some (T9 a b o i j),i,j,o,g,p,q))
def hin2(a b:V)(t:Nat)(c:H7):SM H7:=forIn [0:t] c λ_ c=>
 if c.2.2.2.2.1>1 then hw2 a b c.2.2.2.1 c.2.1 c.2.2.1 (c.2.2.2.2.1 - 1) c.2.2.2.2.2.1 c.2.2.2.2.2.2
 else hw2 a b c.2.2.2.1 c.2.1 c.2.2.1 c.2.2.2.2.1 c.2.2.2.2.2.1 c.2.2.2.2.2.2
def outH(a b:V)(t:Nat)(c:H5):SM H5:=forIn [0:t] c λ_ c=>
 hin1 a b t c.2.2.2.2 (none,c.2.1,c.2.2.1,c.2.2.2.1,0,0) >>= λd=>match d.1 with
  |some r=>pure (.done (some r,d.2.1,d.2.2.1,d.2.2.2.1,c.2.2.2.2))
  |none=>liftM (rule "list.sort.gallop") >>= λ_=>hin2 a b t (none,d.2.1,d.2.2.1,d.2.2.2.1,c.2.2.2.2+1,d.2.2.2.2.1,d.2.2.2.2.2) >>= λe=>match e.1 with
   |some r=>pure (.done (some r,e.2.1,e.2.2.1,e.2.2.2.1,e.2.2.2.2.1))
   |none=>DT (e.2.2.2.2.1+1) >>= λ_=>pure (.yield (none,e.2.1,e.2.2.1,e.2.2.2.1,e.2.2.2.2.1+1))
section
abbrev TwoH(lt:↑20)(a b o:V)(i j:Nat):Prop:=TwoR (Le lt) (a.toList++b.toList) (a.toList.take i) (b.toList.take j) o.toList.reverse
def TwoH.sa(h:TwoH lt a b o i j):(a.toList.take i).Pairwise (Le lt):=(List.pairwise_append.mp h.hx).1
def J1(lt:↑20)(a b o:V)(i j:Nat):Prop:=1<=i/\i<=a.size/\2<=j/\j<=b.size/\TwoH lt a b o i j
def R6(lt:↑20)(a b:V)(n:Nat)(c:H6):Prop:= ∃i j o p q,c=(none,i,j,o,p,q)/\J1 lt a b o i j/\n<=o.size
def S6(lt:↑20)(a b:V)(n:Nat)(c:H6):Prop:=(∃r e,c=(some r,e)/\FinA lt a b r)\/R6 lt a b n c
def R7(lt:↑20)(a b:V)(n:Nat)(c:H7):Prop:= ∃i j o g p q,c=(none,i,j,o,g,p,q)/\J1 lt a b o i j/\n<=o.size
def S7(lt:↑20)(a b:V)(n:Nat)(c:H7):Prop:=(∃r e,c=(some r,e)/\FinA lt a b r)\/R7 lt a b n c
end
end Srt
namespace Srt
open PySem PyProof.Rows
abbrev C2:=Option (Option Nat)×Nat
abbrev C3:=Option (Option Nat)×Nat×Nat
def U3(lo a n:Nat):SM C2:=forIn [a:n] ((none,a):C2) λ_ c=>ltAt' (lo+c.2) (lo+c.2 - 1) >>= λo=>match o with
 |some q=>if q=true then pure (.done (none,c.2))else pure (.yield (none,c.2+1))
 |_=>pure (.done (some none,c.2))
def tl3(lo m n:Nat):SM (Option Nat):=reverseSlice' lo (lo+m) >>= λ_=>U3 lo m n >>= λc=>match c.1 with
 |some r=>pure r
 |none=>pure (some c.2)
def zCQ(lo a n:Nat):SM C3:=forIn [a:n] ((none,a,0):C3) λ_ c=>ltAt' (lo+c.2.1) (lo+c.2.1 - 1) >>= λo=>match o with
 |some q=>if q=true then
    if c.2.2>0 then reverseSlice' (lo+c.2.1 - (c.2.2+1)) (lo+c.2.1) >>= λ_=>pure (.yield (none,c.2.1+1,0))else pure (.yield (none,c.2.1+1,0))
   else ltAt' (lo+c.2.1 - 1) (lo+c.2.1) >>= λo=>match o with
    |some q=>if q=true then pure (.done (none,c.2.1,c.2.2))else pure (.yield (none,c.2.1+1,c.2.2+1))
    |_=>pure (.done (some none,c.2.1,c.2.2))
 |_=>pure (.done (some none,c.2.1,c.2.2))
def U4(lo m n:Nat):SM (Option Nat):=liftM (rule "list.sort.descending-run") >>= λ_=>zCQ lo (m+1) n >>= λc=>match c.1 with
 |some r=>pure r
 |none=>if c.2.2>0 then reverseSlice' (lo+c.2.1 - (c.2.2+1)) (lo+c.2.1) >>= λ_=>tl3 lo c.2.1 n else tl3 lo c.2.1 n
def cntR(lo n:Nat):SM (Option Nat):=U3 lo 1 n >>= λc=>match c.1 with
 |some r=>pure r
 |none=>if(c.2==n)=true then pure (some c.2)else if c.2>1 then ltAt' lo (lo+c.2 - 1) >>= λo=>(match o with
    |some q=>if q=true then pure (some c.2)else reverseSlice' lo (lo+c.2) >>= λ_=>U4 lo c.2 n
    |_=>pure none)
   else U4 lo c.2 n
theorem OT(lo n):countRun' lo n=cntR lo n:=by kernel_rfl
def binI(lo k:Nat):SM (Option Bool×Nat×Nat):=forIn [0:k] ((none,0,k):Option Bool×Nat×Nat) λ_ c=>
 if c.2.1>=c.2.2 then pure (.done (none,c.2.1,c.2.2))else ltAt' (lo+k) (lo+(c.2.1+c.2.2) / 2) >>= λo=>match o with
  |some q=>if q=true then pure (.yield (none,c.2.1,(c.2.1+c.2.2) / 2))else pure (.yield (none,(c.2.1+c.2.2) / 2+1,c.2.2))
  |_=>pure (.done (some false,c.2.1,c.2.2))
def zCR(lo n ok:Nat):SM Bool:=(forIn [max ok 1:n] ((none,()):Option Bool×Unit) λk _=>binI lo k >>= λc=>match c.1 with
  |some r=>pure (.done (some r,()))
  |none=>moveDown' (lo+k) (lo+c.2.1) >>= λ_=>pure (.yield (none,()))) >>= λc=>match c.1 with
 |some r=>pure r
 |none=>pure true
theorem JM(lo n ok):binarySort' lo n ok=zCR lo n ok:=by kernel_rfl
noncomputable def Kx(d:Keyed)(v:V)(i:Nat):Keyed:=(v[i]?).getD d
def BG(h:v[i]? =u[j]?):Kx d v i=Kx d u j:=by unfold Kx;rw[h]
def HB(b:j<=v.size)(k):Kx d (mirror v i j ((j - i) / 2)) k=if i<=k/\k<j then Kx d v (i+j - 1 - k)else Kx d v k:=by
 have e:=getElem?_mirror_all (i:=i) b k;by_cases a:i<=k/\k<j
 .rw[iP a]at e ⊢; exact BG e
 .rw[iN0 a]at e ⊢; exact BG e
def RA(hs:src<v.size)(c:m<=src)(k):
  Kx d (bubble v src m) k=if k=src - m then Kx d v src else if src - m<k/\k<=src then Kx d v (k - 1)else Kx d v k:=by
 have e:=getElem?_bubble hs m c k;by_cases a:k=src - m
 .rw[iP a]at e ⊢; exact BG e
 .rw[iN0 a]at e ⊢;by_cases b:src - m<k/\k<=src
  .rw[iP b]at e ⊢; exact BG e
  .rw[iN0 b]at e ⊢; exact BG e
structure SB(a₀:V)(kd:SortKind)(pd:Array (Nat×Nat×Nat))(f:V)(lo:Nat)(st:SortSt):Prop where
 pm:(arrOf st).Perm a₀
 kind:kindOf st=kd
 fl:failedOf st=none
 pd:pendingOf st=pd
 fx: ∀i,i<lo->(arrOf st)[i]? =f[i]?
section
variable{pd:Array (Nat×Nat×Nat)}{lo:Nat}{st:SortSt}
def SB.size(h:↑36):(arrOf st).size=a₀.size:=h.pm.size_eq
theorem SB.rev(h:↑36)(hi:lo<=i)(a:j<=a₀.size):SB a₀ kd pd f lo (setArr st (mirror (arrOf st) i j ((j - i) / 2))):=
 ⟨(mirror_perm _ _ _ _).trans h.pm,h.kind,h.fl,h.pd,λk b=>by rw[getElem?_mirror_all (by rw[h.size];exact a),iN0 #[0]];exact h.fx k b⟩
theorem SB.bub(h:↑36)(hi:lo+m<=i)(a:i<a₀.size):SB a₀ kd pd f lo (setArr st (bubble (arrOf st) i m)):=
 ⟨(bubble_perm _ _ _).trans h.pm,h.kind,h.fl,h.pd,λk b=>by rw[getElem?_bubble (by rw[h.size];exact a) _ #[0],iN0 #[0],iN0 #[0]];exact h.fx k b⟩
def FQ(C:↑48)(h:↑36)(c: ∀x,x∈a₀.toList->D x)(hi:i<a₀.size)(m:j<a₀.size)
  (hq:Q (some (lt (Kx d (arrOf st) i) (Kx d (arrOf st) j))) st):wpS M A E s (ltAt' i j) Q st:=by
 obtain⟨x,a⟩:=Zz (by rw[h.size];exact hi);obtain⟨y,b⟩:=Zz (by rw[h.size];exact m);have o:=(Array.perm_iff_toList_perm.mp h.pm).mem_iff.mp (î a);have n:=(Array.perm_iff_toList_perm.mp h.pm).mem_iff.mp (î b);have e:Kx d (arrOf st) i=x:=by unfold Kx;rw[<-û,a];rfl
 have k:Kx d (arrOf st) j=y:=by unfold Kx;rw[<-û,b];rfl
 rw[e,k]at hq;refine wpS_bind (wpS_get ?_);exact wpS_bind (El a (wpS_bind (El b (C.go x y (c x o) (c y n) st h.kind _ hq))))
def UF(h:Q () (setArr st (mirror (arrOf st) i j ((j - i) / 2)))):wpS M A E s (reverseSlice' i j) Q st:=by rw[reverseSlice'_eq];exact wpS_modify h
def Up(lt:↑20)(d:Keyed)(v:V)(lo n:Nat):Prop:= ∀i j,i<=j->j<n->Le lt (Kx d v (lo+i)) (Kx d v (lo+j))
def Dn(lt:↑20)(d:Keyed)(v:V)(lo n:Nat):Prop:= ∀i j,i<=j->j<n->Le lt (Kx d v (lo+j)) (Kx d v (lo+i))
theorem Up.step(C:↑48)(hs:Up lt d v lo x)(k:1<=x)(h:lt (Kx d v (lo+x)) (Kx d v (lo+x - 1))=false):Up lt d v lo (x+1):=by
 intro i j b m;by_cases a:j<x
 .exact hs i j b a
 .have c:j=x:=by lia
  subst c;by_cases e:i=j
  .subst e;exact C.rf _
  .have:=hs i (j - 1) #[0] #[0];rw[show lo+(j - 1)=lo+j - 1 by lia]at this;exact C.tr _ _ _ this h
theorem Em(C:↑48)(o: ∀x,x∈a₀.toList->D x)(h:↑36)(q:lo+n<=a₀.size)(r:1<=a)(i:a<=n)(hs:Up lt d (arrOf st) lo a)
  (hq: ∀m,a<=m->m<=n->Up lt d (arrOf st) lo m->(m=n\/lt (Kx d (arrOf st) (lo+m)) (Kx d (arrOf st) (lo+m - 1))=true)->Q (none,m) st):wpS M A E s (U3 lo a n) Q st:=by
 refine wpS_forRange (I:=λx c e=>e=st/\c=(none,x)/\Up lt d _ lo x) ?_ ?_ ⟨rfl,rfl,hs⟩
 .rintro x c e j p ⟨rfl,rfl,b⟩;refine wpS_bind (FQ (d:=d) C h o #[0] #[0] ?_)
  cases k:lt _ _ with
  |true=>exact wpS_pure (hq x j #[0] b (.inr k))
  |false=>exact wpS_pure ⟨rfl,rfl,b.step C #[0] k⟩
 .rintro c e ⟨rfl,rfl,b⟩;rw[show max a n=n by lia]at b ⊢;exact hq n i (à _) b (.inl rfl)
theorem Up.of_mirror(h:↑36)(a:lo+m<=a₀.size)(hs:Dn lt d (arrOf st) lo m):Up lt d (mirror (arrOf st) lo (lo+m) ((lo+m - lo) / 2)) lo m:=by intro i j b c;rw[HB (by rw[h.size];exact a),HB (by rw[h.size];exact a),iP #[0],iP #[0]];have:=hs (m - 1 - j) (m - 1 - i) (by omega) (by omega);rw[show lo+(m - 1 - j)=lo+(lo+m) - 1 - (lo+j) by omega,show lo+_=lo+(lo+m) - 1 - (lo+i) by omega]at this;exact this
theorem Og(C:↑48)(a: ∀x,x∈a₀.toList->D x)(h:↑36)(e:lo+n<=a₀.size)(i:1<=m)(o:m<=n)(hs:Dn lt d (arrOf st) lo m)
  (hq: ∀m q,SB a₀ kd pd f lo q->1<=m->m<=n->Up lt d (arrOf q) lo m->Q (some m) q):wpS M A E s (tl3 lo m n) Q st:=by
 refine wpS_bind (UF ?_);have h':=h.rev (j:=lo+m) (à _) #[0];exact wpS_bind (Em C a h' e i o (Up.of_mirror h #[0] hs) λk p c b _=>wpS_pure (hq k _ h' #[0] c b))
def zCS(lt:↑20)(d:Keyed)(v:V)(i j:Nat):Prop:= ∀k l,i<=k->k<j->i<=l->l<j->Le lt (Kx d v k) (Kx d v l)
def Dn.mirror(C:↑48)(h:↑36)(m:j<=a₀.size)(c:zCS lt d (arrOf st) i j)(hs:Dn lt d (arrOf st) lo n):Dn lt d (mirror (arrOf st) i j ((j - i) / 2)) lo n:=by
 have a: ∀k,Le lt (Kx d (PyProof.Rows.mirror (arrOf st) i j ((j - i) / 2)) k) (Kx d (arrOf st) k)/\Le lt (Kx d (arrOf st) k) (Kx d (PyProof.Rows.mirror (arrOf st) i j ((j - i) / 2)) k):=by
  intro k;rw[HB (by rw[h.size];exact m)];split
  .exact⟨c _ _ (by omega) (by omega) (by omega) (by omega),c _ _ (by omega) (by omega) (by omega) (by omega)⟩
  .exact⟨C.rf _,C.rf _⟩
 intro p q b e;exact C.tr _ _ _ (a _).1 (C.tr _ _ _ (hs p q b e) (a _).2)
theorem Wi(C:↑48)(L: ∀x,x∈a₀.toList->D x)(h:↑36)(X:lo+n<=a₀.size)(J:1<=a)(F:a<=n)(hs:Dn lt d (arrOf st) lo a)
  (hq: ∀m e q,SB a₀ kd pd f lo q->a<=m->m<=n->Dn lt d (arrOf q) lo m->e+1<=m->zCS lt d (arrOf q) (lo+m - (e+1)) (lo+m)->Q (none,m,e) q):wpS M A E s (zCQ lo a n) Q st:=by
 refine wpS_forRange (I:=λx c q=> ∃e,c=(none,x,e)/\SB a₀ kd pd f lo q/\Dn lt d (arrOf q) lo x/\e+1<=x/\zCS lt d (arrOf q) (lo+x - (e+1)) (lo+x)) ?_ ?_
  ⟨0,rfl,h,hs,(by lia),(λk l J W P T=>by rw[show k=l by lia];exact C.rf _)⟩
 .rintro x c q B O ⟨e,rfl,o,b,p,r⟩;have one: ∀v:V,zCS lt d v (lo+(x+1) - (0+1)) (lo+(x+1)):=λv k l J W P T=>by rw[show k=l by lia];exact C.rf _
  refine wpS_bind (FQ (d:=d) C o L #[0] #[0] ?_)
  cases N:lt _ _ with
  |true=>
   have K:Dn lt d (arrOf q) lo (x+1):=by
    intro i j y S;by_cases u:j<x
    .exact b i j y u
    .have z:j=x:=by lia
     subst z;by_cases w:i=j
     .subst w;exact C.rf _
     .have:=b i (j - 1) #[0] #[0];rw[show lo+_=lo+j - 1 by lia]at this;exact C.tr _ _ _ (C.as _ _ N) this
   dsimp only;rw[iP rfl];by_cases H:e>0
   .rw[iP H];refine wpS_bind (UF (wpS_pure ⟨0,rfl,o.rev #[0] #[0],K.mirror C o #[0] r,(by lia),one _⟩))
   .rw[iN0 H];exact wpS_pure ⟨0,rfl,o,K,(by lia),one _⟩
  |false=>
   dsimp only;rw[iN0 (by simp)];refine wpS_bind (FQ (d:=d) C o L #[0] #[0] ?_)
   cases G:lt _ _ with
   |true=>exact wpS_pure (hq x e q o B #[0] b p r)
   |false=>
    refine wpS_pure ⟨_,rfl,o,(λi j y S=>?_),(by lia),(λk l Z k2 k3 Y=>?_)⟩
    .by_cases u:j<x
     .exact b i j y u
     .have z:j=x:=by lia
      subst z;by_cases w:i=j
      .subst w;exact C.rf _
      .have:=b i (j - 1) #[0] #[0];rw[show lo+_=lo+j - 1 by lia]at this;exact C.tr _ _ _ G this
    .by_cases U:k=lo+x
     .subst U;by_cases cl:l=lo+x
      .subst cl;exact C.rf _
      .exact C.tr _ _ _ G (r _ _ #[0] #[0] #[0] #[0])
     .by_cases cl:l=lo+x
      .subst cl;exact C.tr _ _ _ (r k _ #[0] #[0] #[0] #[0]) N
      .exact r _ _ #[0] #[0] #[0] #[0]
 .rintro c q ⟨e,rfl,o,b,p,r⟩;rw[show max a n=n by lia]at b p r ⊢;exact hq n e q o F (à _) b p r
theorem En(C:↑48)(a: ∀x,x∈a₀.toList->D x)(h:↑36)(b:lo+n<=a₀.size)(p:m+1<=n)(hs:Dn lt d (arrOf st) lo (m+1))
  (hq: ∀m q,SB a₀ kd pd f lo q->1<=m->m<=n->Up lt d (arrOf q) lo m->Q (some m) q):wpS M A E s (U4 lo m n) Q st:=by
 refine wpS_bind (XS ?_);refine wpS_bind (Wi C a h b #[0] p hs λk e q c v i j u r=>?_);by_cases o:e>0
 .rw[iP o];exact wpS_bind (UF (Og C a (c.rev #[0] #[0]) b #[0] i (j.mirror C c #[0] r) hq))
 .rw[iN0 o];exact Og C a c b #[0] i j hq
theorem Wj(C:↑48)(e: ∀x,x∈a₀.toList->D x)(h:↑36)(o:lo+n<=a₀.size)(H:1<=n)
  (hq: ∀m q,SB a₀ kd pd f lo q->1<=m->m<=n->Up lt d (arrOf q) lo m->Q (some m) q):wpS M A E s (countRun' lo n) Q st:=by
 rw[OT];refine wpS_bind (Em (d:=d) C e h o (à 1) H (λi j c F=>by rw[show i=j by lia];exact C.rf _) λm w y hs r=>?_);by_cases p:m=n
 .rw[iP (by simpa using p)];exact wpS_pure (hq m st h w y hs)
 .rw[iN0 (by simpa using p)];have b:=r.resolve_left p;by_cases v:m>1
  .rw[iP v];refine wpS_bind (FQ (d:=d) C h e #[0] #[0] ?_)
   cases G:lt _ _ with
   |true=>exact wpS_pure (hq m st h w y hs)
   |false=>
    have all:zCS lt d (arrOf st) lo (lo+m):=by intro k l L O N K;have z:=hs 0 (l - lo) #[0] #[0];have B:=hs (k - lo) (m - 1) #[0] #[0];rw[show lo+0=lo by lia,show lo+_=l by lia]at z;rw[show lo+_=k by lia,show lo+_=lo+m - 1 by lia]at B;exact C.tr _ _ _ B (C.tr _ _ _ G z)
    have I:Dn lt d (arrOf st) lo (m+1):=by
     intro i j c F;by_cases J:j<m
     .exact all _ _ #[0] #[0] #[0] #[0]
     .have u:j=m:=by lia
      subst u;by_cases a:i=j
      .subst a;exact C.rf _
      .exact C.tr _ _ _ (C.as _ _ b) (all _ _ #[0] #[0] #[0] #[0])
    dsimp only;exact wpS_bind (UF (En C e (h.rev (à _) #[0]) o #[0] (I.mirror C h #[0] all) hq))
  .rw[iN0 v];have:m=1:=by lia
   subst this;refine En C e h o #[0] (λi j c F=>?_) hq;by_cases a:i=j
   .subst a;exact C.rf _
   .rw[show i=0 by lia,show j=1 by lia];exact C.as _ _ b
theorem Wl(C:↑48)(L: ∀x,x∈a₀.toList->D x)(h:↑36)(U:lo+n<=a₀.size)(K:ok<=n)(hs:Up lt d (arrOf st) lo ok)
  (hq: ∀m,SB a₀ kd pd f lo m->Up lt d (arrOf m) lo n->Q true m):wpS M A E s (binarySort' lo n ok) Q st:=by
 rw[JM];unfold zCR
 refine wpS_bind (wpS_mono (wpS_forRange (I:=λk c m=>c=(none,())/\SB a₀ kd pd f lo m/\Up lt d (arrOf m) lo (min k n))
  (Q:=λc m=>c=(none,())/\SB a₀ kd pd f lo m/\Up lt d (arrOf m) lo n) ?_ ?_ ?_) ?_)
 .rintro k c m S J ⟨rfl,p,b⟩;rw[show min k n=k by lia]at b;unfold binI
  refine wpS_bind (wpS_mono (wpS_forRange (I:=λx c a=>a=m/\ ∃l r,c=(none,l,r)/\l<=r/\r<=k/\r - l<=k - x/\
    (∀i,i<l->Le lt (Kx d (arrOf m) (lo+i)) (Kx d (arrOf m) (lo+k)))/\(∀i,r<=i->i<k->Le lt (Kx d (arrOf m) (lo+k)) (Kx d (arrOf m) (lo+i))))
   (Q:=λc a=>a=m/\ ∃l r,c=(none,l,r)/\l<=k/\
    (∀i,i<l->Le lt (Kx d (arrOf m) (lo+i)) (Kx d (arrOf m) (lo+k)))/\(∀i,l<=i->i<k->Le lt (Kx d (arrOf m) (lo+k)) (Kx d (arrOf m) (lo+i)))) ?_ ?_ ?_) ?_)
  .rintro x c a _ N ⟨rfl,l,r,rfl,B,q,O,e,o⟩;dsimp only;by_cases w:l>=r
   .rw[iP w];have:l=r:=by lia
    subst this;exact wpS_pure ⟨rfl,l,l,rfl,q,e,o⟩
   .rw[iN0 w];refine wpS_bind (FQ (d:=d) C p L #[0] #[0] ?_)
    cases G:lt _ _ with
    |true=>exact wpS_pure ⟨rfl,l,_,rfl,by lia,by lia,by lia,e,λi z F=>C.tr _ _ _ (C.as _ _ G) (b _ _ z F)⟩
    |false=>exact wpS_pure ⟨rfl,_,r,rfl,by lia,by lia,by lia,λi z=>C.tr _ _ _ (b i _ #[0] #[0]) G,o⟩
  .rintro c a ⟨rfl,l,r,rfl,B,q,O,e,o⟩;have:l=r:=by lia
   subst this;exact⟨rfl,l,l,rfl,q,e,o⟩
  .exact⟨rfl,0,k,rfl,by lia,by lia,by lia,λi hi=>by lia,λi z F=>by lia⟩
  .rintro c a ⟨rfl,l,r,rfl,H,e,o⟩;dsimp only;rw[moveDown'_eq];have v:lo+k<(arrOf a).size:=by rw[p.size];lia
   refine wpS_bind (wpS_modify (wpS_pure ⟨rfl,?_,?_⟩))
   .exact p.bub #[0] #[0]
   .rw[show min _ n=k+1 by lia];intro i j y P;show Le lt _ _;rw[RA v #[0],RA v #[0],show lo+k - _=lo+l by lia];have u: ∀i,1<=i->lo+i - 1=lo+(i - 1):=λi hi=>by lia
    repeat' split
    all_goals first
     |(exfalso;lia)
     |exact C.rf _
     |exact e _ #[0]
     |(rw[u _ #[0]];exact o _ #[0] #[0])
     |exact o _ #[0] #[0]
     |exact b _ _ #[0] #[0]
     |(rw[u i #[0]];exact b _ _ #[0] #[0])
     |(rw[u j #[0]];exact b _ _ #[0] #[0])
     |(rw[u i #[0],u j #[0]];exact b _ _ #[0] #[0])
     |(rw[u i #[0]];exact e _ #[0])
 .rintro c m ⟨T,p,b⟩;refine⟨T,p,?_⟩;rwa [show min _ n=n by lia]at b
 .refine⟨rfl,h,λi j y P=>?_⟩;by_cases z:ok=0
  .rw[show i=j by lia];exact C.rf _
  .exact hs i j y #[0]
 .rintro c m ⟨rfl,p,b⟩;exact wpS_pure (hq m p b)
end
end Srt
namespace Srt
open PySem PyProof.Rows
section
variable{kd:SortKind}{lt:↑20}{a₀:V}{pd:Array (Nat×Nat×Nat)}{lo:Nat}{st:SortSt}
def Up.sl(h:Up lt d v lo n):SL lt v.toList lo n:=by
 intro i j x y a m b e;have c:Kx d v (lo+i)=x:=by unfold Kx;rw[<-û,b];rfl
 have k:Kx d v (lo+j)=y:=by unfold Kx;rw[<-û,e];rfl
 have:=h i j a m;rw[c,k]at this;exact this
theorem SL.pw(h:SL lt l lo n):((l.drop lo).take n).Pairwise (Le lt):=by rw[List.pairwise_iff_getElem];intro i j hi a b;rw[lT]at hi a;rw[List.getElem_take,List.getElem_take,List.getElem_drop,List.getElem_drop];exact h i j _ _ #[0] #[0] (gE _) (gE _)
structure Out(a₀:V)(kd:SortKind)(lt:Keyed->Keyed->Bool)(n:Nat)(st:SortSt):Prop where
 pm:(arrOf st).toList.Perm a₀.toList
 kind:kindOf st=kd
 fl:failedOf st=none
 pd: ∃w,pendingOf st=#[(0,n,w)]
 so:(arrOf st).toList.Pairwise (Le lt)
end
end Srt
namespace Srt
open PySem PyProof.Rows
abbrev U2:=Option Unit×Nat
abbrev U1:=Option Unit×Unit
def psh(lo n:Nat):SM (ForInStep U2):=(modify λs=>setPending s ((pendingOf s).push (lo,n,0))) >>= λ_=>pure (.yield (none,lo+n))
def nxt(N lo n:Nat):SM (ForInStep U2):=get >>= λst=>match (pendingOf st).back? with
 |some (a,b,_)=>(forIn [0:N] ((none,()):U1) λ_ _=>get >>= λst=>(match (if(pendingOf st).size>1 then(pendingOf st)[(pendingOf st).size - 2]? else none)with
   |some (_,_,z)=>if z<=power' N (2 * a+b) (2 * a+b+b+n) N then pure (.done (none,()))else mergeAt' ((pendingOf st).size - 2) >>= λq=>if(!q)=true then pure (.done (some (),()))else pure (.yield (none,()))
   |_=>pure (.done (none,())))) >>= λc=>(match c.1 with
  |some r=>pure (.done (some r,lo))
  |none=>(modify λs=>setPending s ((pendingOf s).modify ((pendingOf s).size - 1) λ(u,v,_)=>(u,v,power' N (2 * a+b) (2 * a+b+b+n) N))) >>= λ_=>psh lo n)
 |_=>psh lo n
def runs(N r:Nat):SM U2:=forIn [0:N] ((none,0):U2) λ_ c=>if c.2>=N then pure (.done (none,c.2))else countRun' c.2 (N - c.2) >>= λo=>match o with
 |some m=>if m<r then liftM (rule "list.sort.binary-insertion") >>= λ_=>binarySort' c.2 (min (N - c.2) r) m >>= λq=>if(!q)=true then pure (.done (some (),c.2))else nxt N c.2 (min (N - c.2) r)
   else nxt N c.2 m
 |_=>pure (.done (some (),c.2))
def zCT(N:Nat):SM U1:=forIn [0:N] ((none,()):U1) λ_ _=>get >>= λst=>if(pendingOf st).size<=1 then pure (.done (none,()))else
 mergeAt' (if Option.any (λx=>decide (x<((pendingOf st)[(pendingOf st).size - 2+1]?).elim 0 λx=>x.2.1)) (if(pendingOf st).size - 2>0 then Option.map (λx=>x.2.1) (pendingOf st)[(pendingOf st).size - 2 - 1]? else none)=true
  then(pendingOf st).size - 2 - 1 else(pendingOf st).size - 2) >>= λq=>if(!q)=true then pure (.done (some (),()))else pure (.yield (none,()))
def sRun:SM Unit:=get >>= λst=>runs (arrOf st).size (minRun' (arrOf st).size (arrOf st).size 0) >>= λc=>match c.1 with
 |some r=>pure r
 |none=>zCT (arrOf st).size >>= λc=>match c.1 with
  |some r=>pure r
  |none=>pure ()
section
variable{pd:Array (Nat×Nat×Nat)}{lo:Nat}{st:SortSt}
theorem SB.free(h:↑36)(g):SB a₀ kd pd' g 0 (setPending st pd'):=⟨h.pm,h.kind,h.fl,rfl,λ_ hi=>by lia⟩
def zEL(a₀:V)(lt:↑20)(st:SortSt):Prop:=(arrOf st).toList.Perm a₀.toList/\failedOf st=none/\(arrOf st).toList.Pairwise (Le lt)
end
end Srt
namespace Srt
open PySem PyProof.Rows
section
variable{st:SortSt}
theorem Oh(a:2<=N)(h:N<64):minRun' N N 0=N:=by
 obtain⟨g,rfl⟩: ∃g,N=g+1:=⟨N - 1,by lia⟩
 rw[minRun'_succ,iP h]
def zEM(a₀:V)(kd:SortKind)(lt:↑20)(st:SortSt):Prop:=SB a₀ kd #[(0,a₀.size,0)] a₀ 0 st/\SL lt (arrOf st).toList 0 a₀.size
theorem Oi(C:↑48)(v: ∀x,x∈a₀.toList->D x)(d:Keyed)(J:2<=a₀.size)(h:SB a₀ kd #[] a₀ 0 st)
  (hq: ∀u,zEM a₀ kd lt u->Q (none,a₀.size) u):wpS M A E s (runs a₀.size a₀.size) Q st:=by
 refine wpS_forRange (I:=λx c u=>(x=0/\c=_/\SB a₀ kd #[] a₀ 0 u)\/(1<=x/\c=(none,a₀.size)/\zEM a₀ kd lt u)) ?_ ?_ (.inl ⟨rfl,rfl,h⟩)
 .rintro x c u _ z (⟨rfl,rfl,B⟩|⟨H,rfl,j⟩)
  .dsimp only;rw[iN0 #[0]]
   have r: ∀a,SB a₀ kd #[] a₀ 0 a->Up lt d (arrOf a) 0 a₀.size-> ∀R:ForInStep U2->SortSt->Prop,(∀u,zEM a₀ kd lt u->R (.yield (none,a₀.size)) u)->wpS M A E s (nxt a₀.size 0 a₀.size) R a:=by
    intro a b i R w;refine wpS_bind (wpS_get ?_);have F:(pendingOf a).back? =none:=by rw[b.pd];rfl
    rw[F];dsimp only;refine (wpS_bind (wpS_modify (wpS_pure ?_)));have e:(pendingOf a).push (0,a₀.size,0)=#[(0,a₀.size,0)]:=by rw[b.pd];rfl
    rw[e,Į];exact w _ ⟨b.free a₀,i.sl⟩
   refine wpS_bind (Wj (d:=d) C v B #[0] #[0] λm a b y G i=>?_);dsimp only;by_cases p:m<a₀.size
   .rw[iP p];refine wpS_bind (XS ?_);rw[Nat.sub_zero,Nat.min_self];refine wpS_bind (Wl C v b #[0] #[0] i λk n o=>?_);rw[iN0 (by simp)];exact r k n o _ λ_ q=>.inr ⟨by lia,rfl,q⟩
   .rw[iN0 p];obtain rfl:m=a₀.size:=by lia
    exact r a b i _ λ_ q=>.inr ⟨by lia,rfl,q⟩
  .dsimp only;rw[iP (à _)];exact wpS_pure (hq u j)
 .rintro c u (⟨z,_⟩|⟨_,rfl,j⟩)
  .lia
  .exact hq u j
theorem Oj(e:2<=a₀.size)(h:zEM a₀ kd lt st)(a: ∀d,zEL a₀ lt d->Q (none,()) d):wpS M A E s (zCT a₀.size) Q st:=by
 have b:zEL a₀ lt st:=⟨Array.perm_iff_toList_perm.mp h.1.pm,h.1.fl,by have:=h.2.pw;rwa [drop_zero,ľ (by rw[ü,h.1.size];lia)]at this⟩
 refine wpS_forRange (I:=λ_ c d=>c=_/\d=st) ?_ ?_ ⟨rfl,rfl⟩
 .rintro x c d _ _ ⟨rfl,rfl⟩;refine wpS_bind (wpS_get ?_);rw[iP (by rw[h.1.pd];simp)];exact wpS_pure (a _ b)
 .rintro c d ⟨rfl,rfl⟩;exact a _ b
theorem UG(C:↑48)(h: ∀x,x∈(arrOf st).toList->D x)(d:Keyed)(c:2<=(arrOf st).size)(a:(arrOf st).size<64)(n:kindOf st=kd)(k:pendingOf st=#[])(j:failedOf st=none)
   (hq: ∀m,zEL (arrOf st) lt m->Q () m):wpS M A E s sortRuns' Q st:=by
 rw[(show sortRuns'=sRun by kernel_rfl)];refine wpS_bind (wpS_get ?_);rw[Oh c a];refine wpS_bind (Oi C h d c ⟨Array.Perm.refl _,n,j,k,λ_ hi=>by lia⟩ λe i=>?_);refine wpS_bind (Oj c i λb o=>?_);exact wpS_pure (hq b o)
end
end Srt
namespace Srt
open PySem PyProof.Rows
abbrev Rn:=Nat×Nat×Nat
def RunsOk(lt:↑20)(l:List Keyed):Nat->List Rn->Nat->Prop
 |p,[],q=>p=q
 |p,r::rs,q=>r.1=p/\1<=r.2.1/\SL lt l p r.2.1/\RunsOk lt l (p+r.2.1) rs q
section
theorem RunsOk.le: ∀{rs}{p q},RunsOk lt l p rs q->p+rs.length<=q
 |[],p,q,h=>by cases h;exact à _
 |r::rs,p,q,h=>by
  have:=RunsOk.le h.2.2.2;have:=h.2.1;rw[lC0]
  lia
end
section
variable{kd:SortKind}{lt:↑20}{a₀:V}{st:SortSt}
structure ST(a₀:V)(kd:SortKind)(lt:Keyed->Keyed->Bool)(rs:List Rn)(q:Nat)(st:SortSt):Prop where
 pm:(arrOf st).toList.Perm a₀.toList
 kind:kindOf st=kd
 fl:failedOf st=none
 pd:pendingOf st=rs.toArray
 ok:RunsOk lt (arrOf st).toList 0 rs q
 le:q<=a₀.size
def ST.size(h:ST a₀ kd lt rs q st):(arrOf st).size=a₀.size:=by have:=h.pm.length_eq;simpa using this
end
end Srt
namespace Srt
open PySem PyProof.Rows
section
def XU{α:Type}{f:α->Sem β}{g:α->β}{l:List α}(h: ∀x,x∈l->wpAny M A (f x) (λr d=>d=s/\r=g x) E s):wpAny M A (l.toArray.mapM f) (λr d=>d=s/\r=(l.map g).toArray) E s:=by rw[List.mapM_toArray];refine wB (ò ((show wpAny M A (l.mapM f) (λr d=>d=s/\r=l.map g) E s by
  induction l with
  |nil=>rw[List.mapM_nil];exact wP ⟨rfl,rfl⟩
  |cons x l ih=>
   rw[List.mapM_cons];refine wB (ò (h x mF0) (λr d a=>?_) λ_ _ e=>e);rw[a.1,a.2];refine wB (ò (ih λy b=>h y (mO _ b)) (λr d a=>?_) λ_ _ e=>e);rw[a.1,a.2];exact wP ⟨rfl,rfl⟩)) (λr d a=>?_) λ_ _ e=>e);obtain⟨rfl,rfl⟩:=a;exact wP ⟨rfl,rfl⟩
def TupAt(h:Heap)(a:Addr)(b:A0):Prop:= ∃o n,h.get? a=some o/\o.cls=.type "tuple"/\o.data=.seq b.toArray n
end
end Srt
namespace Srt
open PySem PyProof.Rows
inductive LexS(A:Around)(s:ŀ):List Ł->List Ł->Bool->Prop
 |nn:LexS A s [] [] false
 |nc (x xs):LexS A s [] (x::xs) true
 |cn (y ys):LexS A s (y::ys) [] false
 |eq {y x ys xs k}:SeqAt.EqAt A s y x true->LexS A s ys xs k->LexS A s (y::ys) (x::xs) k
 |ne {y x ys xs k}:SeqAt.EqAt A s y x false->(∀(prog:ł)(w:World)(E Q:VP),Q (.bool k) s->wpAny (model prog w) A (richCompare .Lt y x) Q E s)->LexS A s (y::ys) (x::xs) k
section
def wp_lt{st:SortSt}(a:kindOf st=kd)(h: ∀ E  Q ,Q k s->wpAny ↑7 A (keyLt' kd x.1 y.1) Q E s)(b:Q (some k) st):
  wpS ↑7 A E s (lt' x y) Q st:=by
 rw[lt'_eq];refine wpS_bind (wpS_get ?_);rw[a];refine wpS_bind (wpS_lift (wpAny_attempt (h _ _ ⟨rfl,?_⟩)));exact wpS_pure b
end
end Srt
namespace Srt
open PySem PyProof.Rows
section
theorem Om(vs ws)(i)(a:LexS A s vs ws k):1<=i->↑47+n=ws.length+m->
   wpAny ↑7 A (forIn ((vs.zip ws).zipIdx i) ((none,())) λz _=>eqBool z.1.1 z.1.2 >>= λe=>if(!e)=true then oneLt' (true&&z.2==0) z.1.1 z.1.2 >>= λr=>pure (.done (some r,()))else pure (.yield (none,())))
    (λr d=>d=s/\(r=(some k,())\/(r=(none,())/\k=decide (m<n)))) E s:=by
 induction a generalizing i with
 |nn=>intro hi h;rw[zip_nil_left,zipIdx_nil];exact wP ⟨rfl,.inr ⟨rfl,(dF0 (by simp at h;lia)).symm⟩⟩
 |nc x xs=>intro hi h;rw[zip_nil_left,zipIdx_nil];exact wP ⟨rfl,.inr ⟨rfl,(dT0 (by simp at h;lia)).symm⟩⟩
 |cn y ys=>intro hi h;rw[List.zip_nil_right,zipIdx_nil];exact wP ⟨rfl,.inr ⟨rfl,(dF0 (by simp at h;lia)).symm⟩⟩
 |eq he hr ih=>
  intro hi h;rw[ĵ,zipIdx_cons,forIn_cons];refine wB (wB (he prog w E _ ?_));exact wP (ih _ #[0] (by simpa using(by simp at h;lia)))
 |ne he hr=>
  intro hi h;refine wB (wB (he prog w E _ ?_));simp only[Bool.true_and];rw[show(i==0)=false by simp;lia];refine wB (wB (hr prog w E _ ((ý ?_))));exact wP (wP ⟨rfl,.inl rfl⟩)
end
end Srt
namespace Srt
open PySem PyProof.Rows
section
def sort_plainS{vs:A0}(ho:s.heap.get? a=some (seqObj "list" vs.toArray n0))(L:↑47<64)
  (hk: ∀d:ŀ,d={s with heap:=((s.heap.update a (Obj.mapSeq λ_=>#[])).push (seqObj "tuple" vs.toArray 0)).push (seqObj "list" #[] 0)}-> ∃(kd:SortKind)(D:Keyed->Prop)(lt:↑20),
   (2<=↑47->wpAny ↑7 A (keyKind' vs.toArray) (λk G=>G=d/\k=kd) E d/\Cmp ↑7 A E d kd D lt/\ ∀p,p∈vs.zip vs->D p)/\
   ∀out:List Keyed,out.Perm (vs.zip vs)->out.Pairwise (Le lt)->P (.done (.ret .none)) {d with heap:=d.heap.update a (Obj.mapSeq λ_=>(out.map (·.2)).toArray)}):
  wpAny ↑7 A (Builtin.«list.sort» ⟨[.ref a],[]⟩) P E s:=by
 unfold Builtin.«list.sort»;dsimp only;rw[iN0 (by simp),iN0 (by simp)];rw[List.forIn_nil];refine wB (wP ?_);have K:List.lookup (Str.ofString "key") ([]:List (Str×Ł))=none:=rfl;have U:List.lookup (Str.ofString "reverse") ([]:List (Str×Ł))=none:=rfl;rw[K,U];refine wB (wP ?_);have ha:a<s.heap.objs.size:=ã ho;refine wB (listItems_at ho rfl ?_);refine wB (listUpdate_at ho rfl ?_);obtain⟨q,u⟩: ∃q,(s.heap.update a (Obj.mapSeq λ_=>#[])).get? a=some (seqObj "list" #[] q):=⟨_,get?_update_seq ho (λ_=>#[])⟩
 dsimp only;refine wB (seqEpoch_at u rfl ?_);refine wB (wpAny_newTuple ?_);refine wB (wpAny_newList ?_);refine ö ?_;rw[iN0 (by simp)];dsimp only;generalize i:({s with heap:=((s.heap.update a (Obj.mapSeq λ_=>#[])).push (seqObj "tuple" vs.toArray 0)).push (seqObj "list" #[] 0)}:ŀ)=d;have v:d.heap.get? a=some (seqObj "list" #[] q):=by rw[<-i];exact hP0 _ (hP0 _ u)
 refine(hk d i.symm).m λkd D lt M O=>?_;rw[iN0 (by simp)];refine wB (wP ?_);rw[iN0 (by simp)]
 have j: ∀st:SortSt,failedOf st=none->(arrOf st).toList.Perm (vs.zip vs)->(arrOf st).toList.Pairwise (Le lt)->
   wpAny ↑7 A (do
    let e <-seqEpoch a
    Builtin.List.listUpdate (.ref a) λ_=>(arrOf st).map (·.2)
    if(e !=q)=true then rule "list.sort.modified" >>= λ_=>raiseErrorWords "ValueError" "list modified during sort" >>= λ(_:Unit)=>ret .none else ret .none) P E d:=by
  intro st hf m hs;refine wB (seqEpoch_at v rfl ?_);have B:((arrOf st).map (·.2)).size<=sizeLine+1:=by rw[Array.size_map, <-ü,m.length_eq,length_zip];have:=ô;omega
  refine wB (listUpdate_at v rfl ?_);rw[iN0 (by simp)];have N:(arrOf st).map (·.2)=((arrOf st).toList.map (·.2)).toArray:=by rw[<-Array.toList_map]
  rw[N];exact wP (O _ m hs)
 by_cases b:vs.toArray.size<2
 .rw[iP b,iP b];refine wB (wP ?_);rw[StateT.run_pure];refine wB (wP ?_);rw[iN0 (by simp)];have W:(vs.zip vs).length<=1:=by rw[length_zip];simp at b;omega
  refine j _ rfl ?_ ?_
  .show(vs.toArray.zip vs.toArray).toList.Perm _;simp
  .show(vs.toArray.zip vs.toArray).toList.Pairwise _;have:(vs.toArray.zip vs.toArray).toList=vs.zip vs:=by simp
   rw[this]
   match vs.zip vs,W with
   |[],_=>exact .nil
   |[x],_=>exact List.pairwise_singleton _ _
   |x::y::r,h=>simp at h
 .rw[iN0 b,iN0 b];refine(M (by simp at b;omega)).e λS Y T=>?_;refine wB (ò S (λk G n=>?_) λ_ _ e=>e);obtain⟨rfl,rfl⟩:=n;have o:(arrOf (SortSt.mk' k (vs.toArray.zip vs.toArray) #[] 7 none)).toList=vs.zip vs:=by show(vs.toArray.zip vs.toArray).toList=_;simp
  have z:(arrOf (SortSt.mk' k (vs.toArray.zip vs.toArray) #[] 7 none)).size=vs.length:=by rw[<-ü,o,length_zip,Nat.min_self]
  refine wB (ò (UG (st:=SortSt.mk' k (vs.toArray.zip vs.toArray) #[] 7 none) Y (λp m=>T p (by rw[o]at m;exact m)) (.none,.none) (by rw[z];simp at b;omega) (by rw[z];exact L) rfl rfl rfl
   (Q:=λ_ c=>zEL _ lt c) λc h=>h) (λr Z I=>?_) λ_ _ e=>e)
  obtain⟨⟨⟩,c⟩:=r;refine I.k λg J H X=>?_;subst g;dsimp only;rw[iN0 (by simp)];have F:=j c H (by rw[<-o];exact J) X;have C:failedOf c=none:=H;unfold failedOf at C;rw[C];exact F
end
end Srt
namespace Srt
open PySem PyProof.Rows
section
def XX(j:l≠[])(h: ∀x,x∈l-> ∃z d,x=.int z d):wpAny M A (oneTypeOnly' l.toArray) (λr m=>m=s/\r=some (.type "int")) E s:=by
 refine wB (ò (XU (g:=λ_=>Value.type "int") λx i=>?_) (λr m b=>?_) λ_ _ e=>e)
 .refine(h x i).j λz d k=>?_;subst k;exact wP ⟨rfl,rfl⟩
 .obtain⟨rfl,rfl⟩:=b
  match l,j with
  |x::l,_=>
   have c:(List.map (λ_=>Value.type "int") (x::l)).toArray[0]? =some (Value.type "int"):=by simp
   have a:((List.map (λ_=>Value.type "int") (x::l)).toArray.all λx=>x==Value.type "int")=true:=by simp only[List.all_toArray,all_map,ă];intro _ _;rfl
   rw[c];dsimp only;rw[a];exact wP ⟨rfl,rfl⟩
def wp_kindI(I:keys≠[])(h: ∀x,x∈keys-> ∃a q z u r,x=.ref a/\TupAt s.heap a q/\q=.int z u::r):
  wpAny M A (keyKind' keys.toArray) (λk m=>m=s/\k=tuples' true) E s:=by
 have v: ∀x, ∃y:Option Ł,x∈keys->(∃z u,y=some (.int z u))/\ ∀M:Model,wpAny M A (firstOfTuple' x) (λr m=>m=s/\r=y) E s:=by
  intro x;by_cases c:x∈keys
  .refine(h x c).q λa q z u r J=>J.e λK j L=>?_;subst K;subst L;exact⟨some _,λ_=>⟨⟨z,u,rfl⟩,λM=>(by refine j.b λo n j B F=>?_;refine wB (wpAny_typeOf (Z8 o j B) ?_);refine wB (listItems_at j F ?_);exact wP ⟨rfl,by simp⟩)⟩⟩
  .exact⟨none,λz=>absurd z c⟩
 let g:=λx=>Classical.choose (v x);have i: ∀x,x∈keys->(∃z u,g x=some _)/\ ∀M:Model,wpAny M A _ (λr m=>m=s/\r=g x) E s:=λx c=>ú (v x) c;refine wB (ò (XU λx c=>(i x c).2 M) (λr m p=>?_) λ_ _ e=>e);obtain⟨rfl,rfl⟩:=p;rw[iP (by simp only[List.all_toArray,all_map,ă];intro x c;obtain⟨⟨b,d,e⟩,_⟩:=i x c;show(g x).isSome=true;rw[e];rfl)];refine wB (wpAny_rule ?_);have D:(keys.map g).toArray.filterMap id=((keys.map g).filterMap id).toArray:=by simp
 rw[D];refine wB (ò (XX ?_ ?_) (λr m p=>?_) λ_ _ e=>e)
 .match keys,I,i with
  |x::l,_,i=>
   obtain⟨⟨b,d,e⟩,_⟩:=i x mF0;rw[æ,e];simp
 .intro x c;refine(mem_filterMap.mp c).a λy w e=>?_;refine(mM0.mp w).a λz H C=>?_;obtain⟨⟨b,d,G⟩,_⟩:=i z H;have:some x=some (Value.int b d):=by rw[<-G,C];exact e.symm
  cases this;exact⟨b,d,rfl⟩
 .obtain⟨rfl,rfl⟩:=p;refine wP ⟨rfl,?_⟩;have:((some (Value.type "int")).any λx=>x !=Value.type "tuple")=true:=by rfl
  rw[this]
end
end Srt
namespace Srt
open PySem PyProof.Rows
section
theorem wp_keyLtI(o:TupAt s.heap l (.int x t::r))(j:TupAt s.heap b (.int y u::r2))(c:SeqAt.EqAt A s (.int x t) (.int y u) e)
  (hx:if e=true then LexS A s r r2 k else k=decide (x<y)) (hq:Q k s):
  wpAny ↑7 A (keyLt' (tuples' true) (.ref l) (.ref b)) Q E s:=by
 refine o.b λv B p _ d=>?_;refine j.b λz D i _ a=>?_;refine wB (listItems_at p d (wB (listItems_at i a ?_)));simp only[sA];refine wB ?_;rw[ĵ,zipIdx_cons,forIn_cons];refine wB (wB (c prog w E _ ?_))
 cases e with
 |true=>
  refine wP ?_;refine ò (Om r r2 1 hx (m:=(Value.int x t::r).length) (n:=(Value.int y u::r2).length) (à _) (by simp only[lC0];lia)) (λq C h=>?_) λ_ _ e=>e;obtain⟨rfl,rfl|⟨rfl,e⟩⟩:=h
  .exact wP hq
  .dsimp only;rw[<-e];exact wP hq
 |false=>
  subst hx;refine wB (oneLt_int ?_);exact wP (wP (wP hq))
end
end Srt
namespace L2
namespace M
open PySem PySem.Spec PyProof.Rows
mutual
def vY:MV->Bool
 |.int _=>true
 |.str _=>true
 |.tup ds=>RB ds
 |_=>false
def RB:List MV->Bool
 |[]=>true
 |d::ds=>vY d&&RB ds
end
def RD{α β:Type}{g:α->β}{p m:List β}(h:p.Perm m): ∀l:List α,l.map g=p-> ∃d:List α,d.Perm l/\d.map g=m:=by
 induction h with
 |nil=>intro l e;exact⟨l,.refl _,e⟩
 |cons x _ ih=>
  intro l e
  cases l with
  |nil=>cases e
  |cons a l=>
   injection e with e1 e2
   refine(ih l e2).a λd c i=>?_;exact⟨_,c.cons a,by rw[æ,e1,i]⟩
 |swap x y t=>
  intro l e
  match l,e with
  |a::b::l,e=>
   injection e with e1 e2
   injection e2 with e2 e3
   exact⟨_,.swap _ _ _,by rw[æ,æ,e1,e2,e3]⟩
 |trans _ _ ih1 ih2=>
  intro l e;refine(ih1 l e).a λk p1 n=>?_;refine(ih2 k n).a λo p2 j=>?_;exact⟨o,p2.trans p1,j⟩
section
variable{X:Cx}{α:B9}{H:Hp}{pins:L1}{σ:St}{s:ŀ}
mutual
theorem Eo(I:↑1): ∀{d m:MV}{v:V},vY d=true->vY m=true->Den X.K α H d v->Den X.K α H m v->d=m
 |.int i,m,v,_,h',q,q'=>by
  cases xI q
  cases m with
  |int j=>cases xI q';rfl
  |str x=>cases kS q'
  |tup ds=>obtain⟨a,vs,e,_⟩:=wV q';cases e
  |_=>simp[vY]at h'
 |.str x,m,v,_,h',q,q'=>by
  have e:=kS q
  cases m with
  |int j=>rw[xI q']at e;cases e
  |str y=>rw[kS q']at e;injection e with e;rw[KB e]
  |tup ds=>obtain⟨a,vs,b,_⟩:=wV q';rw[b]at e;cases e
  |_=>simp[vY]at h'
 |.tup ds,m,v,h,h',q,q'=>by
  obtain⟨a,vs,e,t,l⟩:=wV q
  cases m with
  |int j=>rw[xI q']at e;cases e
  |str y=>rw[kS q']at e;cases e
  |tup es=>
   obtain⟨o,c,b,n,k⟩:=wV q';rw[e]at b;cases b;have:=I.tuple_inj t n;subst this;rw[XY I (by unfold vY at h;exact h) (by unfold vY at h';exact h') l k]
  |_=>simp[vY]at h'
theorem XY(I:↑1): ∀{ds es:R0}{vs:List V},RB ds=true->RB es=true->DenL X.K α H ds vs->DenL X.K α H es vs->ds=es
 |[],[],_,_,_,_,_=>rfl
 |[],e::es,_,_,_,q,q'=>by obtain⟨v,r,e,_⟩:=q'.uncons;rw[q.isnil]at e;cases e
 |d::ds,[],_,_,_,q,q'=>by obtain⟨v,r,e,_⟩:=q.uncons;rw[q'.isnil]at e;cases e
 |d::ds,e::es,_,h,h',q,q'=>by obtain⟨v,r,rfl,a,l⟩:=q.uncons;obtain⟨j,k,i,b,c⟩:=q'.uncons;cases i;unfold RB at h h';rw[aE]at h h';rw[Eo I h.1 h'.1 a b,XY I h.2 h'.2 l c]
end
def zCU(h:LexR A s xs ys k):Srt.LexS A s xs ys k:=by
 induction h with
 |nn=>exact .nn
 |nc x xs=>exact .nc x xs
 |cn x xs=>exact .cn x xs
 |eq a _ ih=>exact .eq a ih
 |ne a b=>exact .ne a b
def Br(I:↑1)(d:Den X.K α H (.tup ds) x)(r:RelV x u): ∃a vs m,u=.ref a/\DenL X.K α H ds vs/\Vals vs m/\Srt.TupAt s.heap a m/\IsTup s.heap a m.toArray:=by refine(wV d).b λa vs g t l=>?_;subst g;cases r;refine(I.tuple t).c λm e pt _=>?_;obtain⟨o,b,h,n,c⟩:=id pt;exact Y6 a vs m rfl l e (Z3 o n b h c) pt
end
structure OrdD(S:Sto)(ks:R0):Prop where
 any: ∀a,a∈ks-> ∀b,b∈ks-> ∃t,KC S zO a b=some t
 tr: ∀a,a∈ks-> ∀b,b∈ks-> ∀c,c∈ks->KC S zO b a=some false->KC S zO c b=some false->KC S zO c a=some false
 as: ∀a,a∈ks-> ∀b,b∈ks->KC S zO a b=some true->KC S zO b a=some false
section
variable{ps:C0}
def Jh(J:↑1)(f:EI X pins H e)(w:X.s₀.heap.objs.size<=e)(j:s.heap.get? e=some (seqObj "list" its.toArray n))(m:Vals ys its)(B:ys.length<=sizeLine):Inv X pins σ (yQ H e (.lst ys)) s:=by
 refine⟨J.ok,J.os,J.bare,⟨J.base.keep,J.base.slot,λb a q n k=>?_,J.base.there,λb xs q=>?_,λb h u q=>?_,λb ps q=>?_⟩,J.loc,J.cell,?_,λx c i=>?_,λp d=>?_,λb u q=>?_,J.len⟩
 .rw[zH λz=>(λo z=>absurd (é (ã z) w) (ī _)) a (by rw[<-z];exact q)];exact J.base.free b a q n k
 .rw[zH (zT (J.base.tups b xs q) f.1)];exact J.base.tups b xs q
 .rw[zH (zT (J.base.frzs b h u q) f.1)];exact J.base.frzs b h u q
 .obtain⟨y,z⟩:=J.base.tbls b ps q;exact⟨y,by rw[zH (zT z f.1)];exact z⟩
 .rw[zH (Ne.symm f.2.1)];exact J.free
 .rw[zH (f.2.2.2.2.1 x c i)];exact J.freeC x c i
 .refine(J.pin p d).h λA n ne nf v=>?_;exact⟨A,by rw[zH (f.2.2.2.2.2 p d)];exact n,ne,nf,v⟩
 .by_cases z:b=e
  .subst z;rw[zI]at q;cases q;exact⟨B,its,n,m,j⟩
  .rw[zH z]at q;exact(J.hok b u q).stay (λ_ _ _ r=>r) (λc r=>by rw[zH (zT r f.1)];exact r) λc xs r=>by rw[zH (zT r f.1)];exact r
def Bs(K:P0)(α:B9)(H:Hp)(a:R0)(u:Ł):MV:=
 open Classical in if h: ∃d v,d∈a/\Den K α H d v/\RelV v u then Classical.choose h else a.headD .non
def ltV(K:P0)(α:B9)(H:Hp)(S:Sto)(a:R0)(p q:Keyed):Bool:=(KC S zO (Bs K α H a p.1) (Bs K α H a q.1)).getD false
def lV{K:P0}(a:kds≠[])(u):Bs K α H kds u∈kds:=by
 unfold Bs;split
 .rename_i h;refine(ú h).a λv b _=>?_;exact b
 .match kds,a with
  |x::l,_=>exact mF0
def MC{K:P0}(h: ∃d v,d∈kds/\Den K α H d v/\RelV v u): ∃v,Den K α H (Bs K α H kds u) v/\RelV v u:=by unfold Bs;rw[dif_pos h];refine(ú h).c λv _ a b=>?_;exact Z8 v a b
def On(I:↑1)(b: ∀d,d∈kds->vY d=true)(q:DenL X.K α H kds kvs)(p:Vals kvs ks){i:Nat}(o:ks[i]? =some u)(k:kds[i]? =some a):
  Bs X.K α H kds u=a:=by
 refine(q.at k).a λv n j=>?_;refine(p.get n).a λw c r=>?_;rw[o]at c;cases c;have e:=î k;have ne:kds≠[]:=λz=>by rw[z]at e;cases e
 refine(MC ⟨a,v,e,j,r⟩).a λy h m=>?_;rw[m.inj r]at h;exact Eo I (b _ (lV ne u)) (b a e) h j
end
theorem Ji{b a:A0}(c:b.length=N)(d:a.length=N):(List.range N).map (λi=>((b[i]?).getD .none,(a[i]?).getD .none))=b.zip a:=by
 apply ext_getElem?;intro i;rw[ë];by_cases hi:i<N
 .have e:(b.zip a)[i]? =some (b[i]'#[0],a[i]'#[0]):=by rw[List.getElem?_zip_eq_some];exact⟨gE _,gE _⟩
  rw[List.getElem?_range hi,e];show some ((b[i]?).getD .none,(a[i]?).getD .none)=_;rw[gE #[0],gE #[0]];rfl
 .rw[getElem?_eq_none (by rw[ñ];lia),getElem?_eq_none (by rw[length_zip];lia)];rfl
theorem MD{β:Type}{l:List β}{d:β}{a:Db}(h: ∀i,i∈a->i<l.length):a.map (λi=>(l[i]?).getD d)=a.filterMap (l[·]?):=by
 induction a with
 |nil=>rfl
 |cons i a ih=>
  have hi:=h i mF0;rw[æ,Ĳ (gE hi),ih λj b=>h j (mO _ b),gE hi];rfl
def Ep(S:Sto)(ds d r:R0):Prop:= ∃b:List Nat,b.Perm (List.range ↑12)/\b.Pairwise (λi j=> ∀a c,d[i]? =some a->d[j]? =some c->KC S zO c a=some false)/\r=b.filterMap (ds[·]?)
open Classical in
open Classical in
section
variable{a:Expr}{e:Expr}
def Itq(K:P0)(k:Bool)(a:Addr):It:=if k=true then zED K a else zEE K a
def iSeq(K:P0)(c:TE):TI:=λσ H R=>c σ H λx b=> ∃k a,x=.ref a/\(∃xs,Vs k K b a xs)/\R (Itq K k a) b
def U6(m:PE X l tl):PI X tg l (iSeq X.K tl):=by
 intro pins s σ H R I h;refine wU (m pins s σ H _ I h) λv s1 ⟨x,d,I1,n,w⟩=>?_;refine w.b λk a e g q=>?_;obtain ⟨xs,j⟩:=g;subst e;cases n
 cases k with
 |true=>
  obtain⟨c,u,p,r⟩:=I1.list (show SqL X.K d a xs from j);refine Ę p.isList ?_;refine Yt ↑39 ([↑39]) _ _ d rfl (I1.kept (t':=s1.toks) λb o e=>hP0 _ e) (PV a _) (Z1 _ (ä _ rfl) rfl rfl) (λb i=>?_) q;have e:b=s1.heap.objs.size:=by simpa using i
  subst e;exact I1.fpOk (à _) (I1.hok.fresh (à _))
 |false=>
  obtain⟨c,u,p,r⟩:=I1.tuple (show SqT X.K d a xs from j);refine wpAny_pyIter_tuple (show s1.heap.IsTuple a c.toArray from p) ?_;refine Yt ↑39 ([↑39]) _ _ d rfl (I1.kept (t':=s1.toks) λb o e=>hP0 _ e) (KQ a _) (Z1 _ (ä _ rfl) rfl rfl) (λb i=>?_) q;have e:b=s1.heap.objs.size:=by simpa using i
  subst e;exact I1.fpOk (à _) (I1.hok.fresh (à _))
def itQ(r:Er)(S:Sto):R Wk:=match srcOf S r with
 |some q=>.ok ⟨q.ds,q.gs⟩ S
 |none=>.no
def U7(n:zR X W iter f):WI X W tg iter (λρ S=>(f ρ S).bind itQ):=by
 refine n.a λt n k=>?_;refine Z8 _ (U6 n) (λα ρ S σ H Rc O sl q=>k α ρ S σ H _ O sl (q.bind λu p N s U e T C J c=>?_))
 replace c:=c.shift T
 unfold itQ at c;split at c
 .rename_i q M;refine(Bk C M J.1).b λj L g p1 m=>?_;subst g;refine Z3 q.k j rfl ⟨_,(m.get _ _ _ p1).choose_spec.1⟩ (c.here (u:=Itq X.K q.k j) C ⟨λα S H=>L α S H,?_,p1,λs N U b v r d x w hs=>m.stays _ _ _ _ _ _ d x w hs,m.st _ _ _ p1⟩);intro i b v r d F;refine(m.get _ _ _ d).a λE G D=>?_;obtain⟨P,I,Y⟩:=q
  cases P with
  |true=>
   obtain⟨h,B⟩:=FG (X:=X) (a:=j) (ds:=I) i b v r (Z8 E G D) F;refine⟨λhi=>⟨(h hi).1,λx H' y=>?_⟩,B⟩;obtain⟨A,o,Q,z⟩:=(h hi).2 x H' y;obtain⟨rfl,_⟩:=y;exact⟨A,o,d,z⟩
  |false=>
   obtain⟨h,B⟩:=Dw (X:=X) (a:=j) (ds:=I) i b v r (Z8 E G D) F;refine⟨λhi=>⟨(h hi).1,λx H' y=>?_⟩,B⟩;obtain⟨A,o,Q,z⟩:=(h hi).2 x H' y;obtain⟨rfl,_⟩:=y;exact⟨A,o,d,z⟩
 .exact c.elim
theorem DenL.eraseIdx{K:P0}: ∀{ds}{vs} n ,DenL K α H ds vs->DenL K α H (ds.eraseIdx n) (vs.eraseIdx n)
 |[],_,_,q=>by rw[q.isnil];exact yN
 |d::ds,_,0,q=>by refine q.uncons.b λv r b _ l=>?_;subst b;exact l
 |d::ds,_,n+1,q=>by refine q.uncons.b λv r c a l=>?_;subst c;exact yD a (DenL.eraseIdx n l)
end
section
variable{X:Cx}{a o i:Expr}
noncomputable def DM(kvs:List (Key×V))(k:Key)(v:V):List (Key×V):=if(kvs.any λa=>decide (a.1=k))=true then kvs.map (λa=>if a.1=k then(a.1,v)else a)else kvs++[(k,v)]
def ME(kvs)(k)(v):(DM kvs k v).length<=kvs.length+1:=by
 unfold DM;split
 .rw[lM0];exact le_succ _
 .rw[lA];exact à _
def Wn(r:KV kvs vs)(k:Key)(a:RelV y u):KV (kvs.map λd=>if d.1=k then(d.1,y)else d) (vs.map λd=>if d.1=k then(d.1,u)else d):=by
 induction r with
 |nil=>exact .nil
 |@cons p q ps qs h t ih=>
  rw[æ,æ];refine .cons ?_ ih;by_cases e:p.1=k
  .rw[iP e,iP (h.1.symm.trans e)];exact⟨h.1,a⟩
  .rw[iN0 e,iN0 λz=>e (h.1.trans z)];exact h
def Wo(r:KV kvs vs){q:Key×Ł}(h:p.1=q.1/\RelV p.2 q.2):KV (kvs++[p]) (vs++[q]):=by
 induction r with
 |nil=>exact .cons h .nil
 |cons h' t ih=>exact .cons h' ih
def Oo(r:KV kvs vs)(k)(b:RelV y u):KV (DM kvs k y) (stored vs k u):=by
 unfold DM stored;rw[(show (kvs.any λa=>decide (a.1=k))=vs.any λa=>decide (a.1=k) by
   induction r with
   |nil=>rfl
   |cons h t ih=>rw[List.any_cons,List.any_cons,ih,h.1])];by_cases e:(vs.any λa=>decide (a.1=k))=true
 .rw[iP e,iP e];exact Wn r k b
 .rw[iN0 e,iN0 e];exact Wo r ⟨rfl,b⟩
def UH{a b:Key}(h:KeyD k a)(h':KeyD k b):a=b:=by
 cases k with
 |int i=>exact Eq.trans h h'.symm
 |str x=>exact Eq.trans h h'.symm
 |_=>exact False.elim h
def MF{a:Key}(h:KeyD k a)(h':KeyD k' a):k=k':=by
 cases k with
 |int i=>
  subst h
  cases k' with
  |int j=>have b:(Sum.inl i:Key)=.inl j:=h';cases b;rfl
  |str y=>have b:(Sum.inl i:Key)=.inr _:=h';cases b
  |_=>exact False.elim h'
 |str x=>
  subst h
  cases k' with
  |int j=>have b:(Sum.inr _:Key)=.inl j:=h';cases b
  |str y=>
   have b:=h';injection b with b
   rw[KB b]
  |_=>exact False.elim h'
 |_=>exact False.elim h
theorem XZ: ∀{kvs}{d}{k}{k'},DenK X.K α H kvs d->KeyD k k'->(d.any λq=>decide (q.1=k'))=(look kvs k).isSome
 |_,_,k,k',.nil,hk=>rfl
 |_,_,k,k',.cons (k:=c) (k':=c') hc a l,hk=>by
  rw[QZ,List.any_cons];by_cases h:c=k
  .subst h;rw[iP rfl,dT0 (UH hc hk)];rfl
  .have m: ¬c'=k':=λz=>h (MF hc (z.symm▸hk));rw[iN0 h,dF0 m];exact XZ l hk
theorem MG: ∀{kvs}{q}{k d}{k'}{v},DenK X.K α H kvs q->KeyD k k'->Den X.K α H d v->DenK X.K α H (kvs.map λp=>if p.1=k then(p.1,d)else p) (q.map λm=>if m.1=k' then(m.1,v)else m)
 |_,_,k,d,k',v,.nil,hk,hd=>.nil
 |_,_,k,d,k',v,.cons (k:=c) (k':=c') hc a l,hk,hd=>by
  rw[æ,æ];by_cases h:c=k
  .subst h;rw[iP rfl,iP (UH hc hk)];exact .cons hc hd (MG l hk hd)
  .have u: ¬c'=k':=λz=>h (MF hc (z.symm▸hk));rw[iN0 h,iN0 u];exact .cons hc a (MG l hk hd)
def DenK.append: ∀{kvs d}{xs m},DenK X.K α H kvs xs->DenK X.K α H d m->DenK X.K α H (kvs++d) (xs++m):=λb=>by
 induction b with
 |nil=>exact(λh=>h)
 |cons hk a l ih=>exact(λh=>.cons hk a (ih h))
def DenK.length: ∀{kvs}{xs},DenK X.K α H kvs xs->↑8=kvs.length:=λa=>by
 induction a with
 |nil=>exact rfl
 |cons _ _ l ih=>exact by rw[lC0,lC0,ih]
def YA(l:DenK X.K α H kvs ks)(a:KeyD k k')(hd:Den X.K α H d v):DenK X.K α H (putK kvs k d) (DM ks k' v):=by
 unfold putK DM;rw[XZ l a];by_cases h:(look kvs k).isSome=true
 .rw[iP h,iP h];exact MG l a hd
 .rw[iN0 h,iN0 h];exact l.append (.cons a hd .nil)
def DK(X:Cx)(H:Hp)(d:Addr)(a:List (Key×V)):Prop:=H d=some (.dK a)\/(a=[]/\H d=some (DN X.prog X.w d []))
def DK.nf(h:DK X H d ks): ∀m u,H d≠some (.frz m u):=h.elim (λz=>Zp z) λz=>by first |exact Zp z.2|exact z.elim
def lW(I:↑1)(h:DK X H d ks):ks.length<=sizeLine/\(d==sysModules)=false/\ ∃vs,KV ks vs/\s.heap.DictOf (kD X.prog X.w) d vs:=by
 rcases h with h|⟨rfl,h⟩
 .exact(I.hok d _ h)
 .obtain⟨⟨p,hs,o,es,i,j,k,m,c,n⟩,_⟩:=(I.hok d _ h)
  have a:=c;refine⟨zero_le _,hs,[],.nil,o,es,i,j,k,m,λe b=>?_,by rw[a];exact .nil,nodup_nil⟩;rw[<-Array.mem_toList_iff,a]at b;exact absurd b (by simp)
theorem MH:CallR X (.type "list") (λxs H Q=> ∃d B,xs=[.ref d]/\DK X H d B/\X.calm=true/\ ∀l,H l=none->Q (.ref l) (yQ H l (.lst (B.map λp=>kV p.1)))):=by
 intro pins s σ H xs c Q I r h;refine h.g λd B g F M q=>?_;subst g;refine(vals1 r).a λu R S=>?_;subst R;cases S;obtain⟨z,J,vs,o,L⟩:=lW I F;obtain⟨T,C⟩:=L.dictAt;have n:=Paired.length o;refine PySem.W.kdl_call (PySem.W.kdl_dict J) (I.ok.hd M) C #[0] λh' U y N O P m=>?_
 have G:=by
  have A: ∀{B:List _}{vs:List _}{c:A0},KV B vs->c.length=↑47->(∀(j:Nat)(v:Ł),c[j]? =some v-> ∃(k:Key)(x:Ł),vs[j]? =some (k,x)/\(kD X.prog X.w).is k v=true)->Vals (B.map λp=>kV p.1) c:=by
   intro B vs c E
   induction E generalizing c with
   |nil=>intro n _;cases c with
    |nil=>exact .nil
    |cons a b=>simp at n
   |@cons p q ps qs h t ih=>
    intro n D
    cases c with
    |nil=>simp at n
    |cons a b=>
     refine(D 0 a rfl).d λk x e hi=>?_;simp only[List.getElem?_cons_zero,Option.some.injEq]at e;subst e;rw[æ];refine .cons ?_ (ih (by simpa using n) λj v K=>by simpa using D (j+1) v (by simpa using K));rw[h.1];rcases yL hi with⟨i,t,e1,e2⟩|⟨i,t,e1,e2⟩
     .subst e2;rw[show k=.inl i from e1];exact⟨t,rfl⟩
     .subst e2;rw[show k=.inr i from e1];exact⟨t,rfl⟩
  exact A o (by rw[ü];exact m.1) λj v e=>m.2 j v (by rw[<-û];exact e)
 refine Z3 (.ref ↑3) _ (I.laid O (à _) (show ObjOk X.prog X.w _ h' _ (.lst _)from⟨by rw[lM0];exact z,y.toList,N,G,?_⟩)) rfl (q _ (I.hok.fresh (à _)));exact P
theorem HC: ∀{kvs}{d},DenK X.K α H kvs d->DenL X.K α H (kvs.map (·.1)) (d.map λp=>kV p.1)
 |_,_,.nil=>yN
 |_,_,.cons (k:=c) (k':=c') hc a l=>by
  refine yD ?_ (HC l)
  cases c with
  |int i=>rw[show c'=.inl i from hc];exact yU i
  |str x=>rw[show c'=.inr _ from hc];exact nI x
  |_=>exact False.elim hc
end
noncomputable def Lf(k:Key)(l:List Key):Bool:=l.any λj=>decide (j=k)
def rF(val:Nat->Key):Nat->List Key
 |0=>[]
 |i+1=>if Lf (val i) (rF val i)=true then rF val i else rF val i++[val i]
theorem HD(val)(i):rF val (i+1)=if Lf (val i) (rF val i)=true then rF val i else rF val i++[val i]:=rfl
theorem Es(val): ∀i,(rF val i).length<=i
 |0=>à _
 |i+1=>by
  have d:=Es val i;rw[HD];split
  .exact í d (le_succ _)
  .rw[lA];exact Ġ d
def YB(val)(i)(k):Lf k (rF val (i+1))=(Lf k (rF val i) || decide (k=val i)):=by
 rw[HD];by_cases h:Lf (val i) (rF val i)=true
 .rw[iP h];by_cases e:k=val i
  .rw[e,h];rfl
  .rw[dF0 e,Bool.or_false]
 .rw[iN0 h];unfold Lf;rw[List.any_append,List.any_cons,List.any_nil,Bool.or_false];by_cases e:val i=k
  .rw[dT0 e,dT0 e.symm]
  .rw[dF0 e,dF0 λz=>e z.symm]
theorem YC(val)(i):(rF val (i+1)).length=if Lf (val i) (rF val i)=true then(rF val i).length else(rF val i).length+1:=by
 rw[HD];split
 .rfl
 .rw[lA];rfl
abbrev KSet(P:Program)(w:World)(h:Heap)(D:Addr)(val:Nat->Key)(i:Nat):Prop:=h.SetOf (kD P w) D (λk=>Lf k (rF val i)) (rF val i).length
def KSet.move(x:KSet P w h D val i)(m: ∀o,h.get? D=some o->h'.get? D=some o):KSet P w h' D val i:=by refine x.i λo es b t c=>c.elim λa r=>?_;exact Y4 o es b t ⟨m o a,r⟩
def StrAt(val:Nat->Key)(i:Nat)(v:Ł):Prop:=(∃x t,val i=.inr x/\v=.str x t)\/ ∃x t,val i=.inl x/\v=.int x t
def StrAt.is(h:StrAt val i v):(kD P w).is (val i) v=true/\v.scannable=true:=by
 rcases h with⟨x,t,e,rfl⟩|⟨x,t,e,rfl⟩<;>rw[e]
 .exact⟨AT P w x t,rfl⟩
 .exact⟨IC P w x t,rfl⟩
section
variable{R:Result->ŀ->Prop}{St:Nat->ŀ->Prop}
theorem RE(W:PySem.WalksS P w A.in1 I fp wr G n Pv St)(c:D∉fp)(y: ∀i v,Pv i v->StrAt val i v)(a:n+1<scanBound):
  ∀ k i  s ,i+k=n->St i s->KSet P w s.heap D val i->
   (∀d,PySem.Moved (D::wr) G s d->KSet P w d.heap D val n->R (.ok (.ret .none)) d)->codeAny (model P w) A (.builtin "set.update.loop" ⟨[.ref D,.ref I],[]⟩) R s
 |0,i,s,hk,st,hs,q=>by have e:=hk;subst e;refine Ĥ F.entry_set_update_loop ?_;refine wB (W.done s _ _ st λd m=>?_);exact wP (q d (m.mono λb a=>.tail _ a) (hs.move λo=>m.heap D o λz=>c (W.sub _ z)))
 |k+1,i,s,hk,st,hs,q=>by
  refine Ĥ F.entry_set_update_loop ?_;show wpAny _ A.in1 _ _ _ s;refine wB (W.item i s _ _ #[0] st λv d J h m=>?_);obtain⟨hi,j⟩:=(y i v J).is;have le:=Es val i;refine wB (ö ?_);refine ö (wB ((kD P w).pyHash hi ?_));refine wpAny_setAddHashed_of hi j (hs.move λo=>m.heap D o λz=>c (W.sub _ z)) #[0] λE B r=>?_;have u:KSet P w E D val (i+1):=by unfold KSet;rw[show(λk=>Lf k _)=(λk=>Lf k _ || decide _)from funext (YB val i),YC];exact r
  refine wP ⟨plainId_quiet F.plain_set_update_loop _,RE W c y a k _ _ #[0] (W.frame _ d _ _ h (le_succ _) λb a o e=>?_) u λH C p=>?_⟩
  .rw[B.2 b λz=>c (z▸a)];exact e
  .refine q H (PySem.Moved.trans W.gtrans ((m.mono λb a=>.tail _ a).then_heap (le_succ _) λb o a e=>?_) C) p;rw[B.2 b λz=>a (by rw[z];exact .head _)];exact e
end
section
noncomputable abbrev eF(a:Bool):Obj:={cls:=.type "set",dict:=none,data:=.set #[] 0 (.fresh 0 0 a)}
def zCV(ho:h.get? a=some (eF led)):KSet P w h a val 0:=
 (Y4 _ (#[]) 0 _ ⟨ho,⟨rfl,rfl,rfl⟩,rfl,(λe b=>absurd b (by simp)),(λk=>⟨λz=>absurd z xF0,λ⟨e,b,_⟩=>absurd b (by simp)⟩),(by unfold scanBound;decide),rfl,rfl⟩)
end
section
def UI(hh:A.handled=none)(u:s.heap.IsList l items\/s.heap.IsTuple l items)(hv: ∀ i  v ,items[i]? =some v->StrAt val i v)(hb:items.size+1<scanBound)
  (h: ∀ h'  B ,KSet P w h' ↑3 val items.size->↑49->Q (.ref ↑3) {s with heap:=h',toks:=B}):
  wpAny (model P w) A (call (.type "set") [.ref l]) Q E s:=by
 refine F.called_set.mro.j λc tl S=>?_;have C:=F.called_set.made;have M:=F.called_set.sub;refine wpAny_call (codeAny_of_tree ?_);show wpAny _ _ (callAny (.type "set") _) _ _ _;refine wP ⟨Code.quiet_builtin _ ↑21,Ĥ F.entry_type_call ?_⟩;rw[Around.under_plain (weight_type_call_type "set" [.ref l] []) rfl];have h1:=F.called_set.notType;have h2:=F.called_set.canCreate;have ai:=F.typeCall_set_1 (.ref l)
 repeat (any_goals (first |assumption|wp_step))
 refine Ė (code_set_new_1 (.ref l) (E:=E) (Q₁:=λT s1=> ∃a:Bool,T=.ref ↑3/\s1={s with heap:=s.heap.push (eF a)}) λa=>(Z8 a rfl rfl)) λr s1 y=>?_
 cases r with
 |error e=>exact y
 |ok fl=>
  cases fl with
  |ret T=>
   obtain⟨a,rfl,rfl⟩:=y;have N:(s.heap.push (eF a)).get? ↑3=some (eF a):=ä _ rfl;have hT:Shared.TypeIs {s with heap:=s.heap.push (eF a)} (.ref ↑3) "set":=⟨_,N,rfl⟩
   have X:=F.called_set.init.lookup;have Z:=F.called_set.init.bind (.ref ↑3)
   repeat (any_goals (first |assumption|wp_step))
   refine Ė (ė (R:=wants (λr W=>r=.none/\ ∃h' B,W={s with heap:=h',toks:=B}/\KSet P w h' ↑3 val items.size/\ ∀b o,s.heap.get? b=some o->h'.get? b=some o) E)
    F.called_set.init.plain F.entry_set_init (check_set_init_1 hT ?_)) λY W k=>?_
   .have aa:=PySem.F.sub_list_set;have ab:=PySem.F.sub_list_frozenset;have ae:(Value.type "list"==Value.type "dict")=false:=by decide
    have af:=PySem.F.sub_tuple_set;have ah:=PySem.F.sub_tuple_frozenset;have ag:(Value.type "tuple"==Value.type "dict")=false:=by decide
    have O:A.in1.in1.in1.handled=none:=by simp[hh]
    rcases u with u|u
    all_goals
     have d:=u.push (eF a);obtain⟨⟨oc,od,aj,os⟩,q,G,nl,H⟩:=u;cases G;cases H;have U:=hP0 (eF a) q;have lt:l<s.heap.objs.size:=ã q;unfold Builtin.«set.__init__» noKeywords Builtin.Frozenset.updateFrom;generalize J:pyIter=PI
     wp_walk
     subst J
     first |refine Ę d ?_|refine wpAny_pyIter_tuple d ?_
     refine wB (wpAny_runValue ?_);have p:l<(s.heap.push (eF a)).objs.size:=by rw[Ē];exact Nat.lt_succ_of_lt lt
     have out:↑3∉[(s.heap.push (eF a)).objs.size,l]:=by
      rw[Ē];intro z;rcases mC.mp z with z|z
      .exact absurd z (ê (Nat.lt_succ_self _))
      .exact absurd (mS.mp z) (ċ lt)
     refine RE (by first |(have:=(d:Heap.IsList _ _ _);exact(Walks.list O _ l (ê p) items).toS)|exact(Walks.tuple O _ l (ê p) items).toS) (D:=↑3) (val:=val) out hv hb items.size 0 _ (Į _) ?_ ?_ ?_
     .exact⟨⟨_,ä _ rfl,rfl,rfl⟩,d.push _⟩
     .exact zCV (hP0 _ N)
     intro s' m j;obtain⟨h',g',d',K,L⟩:=s';have e1:g'=s.gens:=m.gens;have e2:d'=s.drawn:=m.drawn;have e3:L=s.os:=m.os;subst e1;subst e2;subst e3;show wpAny _ _ _ _ _ _;refine wP ?_;show wpAny _ _ (ret Value.none) _ _ _;refine wP ⟨rfl,h',K,rfl,j,λb o e=>?_⟩;have n:=ã e;refine m.heap b o (λz=>?_) (hP0 _ (hP0 _ e));rcases mC.mp z with z|z
     .exact absurd z (ê n)
     .rw[Ē]at z;exact absurd (mS.mp z) (ê (Nat.lt_succ_of_lt n))
   .cases Y with
    |error e=>exact k
    |ok fl2=>
     cases fl2 with
     |ret r=>
      obtain⟨rfl,h',B,rfl,j,I⟩:=k
      repeat (any_goals (first |assumption|wp_step))
      exact h _ _ j I
     |_=>exact k.elim
  |_=>exact y.elim
end
section
end
def valY(ys:Ch)(i:Nat):Key:=.inr (kX (ys.getD i []))
section
variable{id:String}
def FR(X:Cx)(T:String)(c:V->Hp->Prop):Prop:= ∀(pins:L1)(s:ŀ)(σ:St)(H:Hp)(x:V)(v:Ł),Inv X pins σ H s->RelV x v->c x H->s.TypeIs v T/\ ∀a,v=.ref a-> ∃b,s.heap.get? a=some b/\b.dict=none
def V1(b:FR X T TY)(p:PlainAttrs T)(a:Slot T name id)(c:↑37)(z:M7 X id r)(ho:PE X o to)(D:PA X (e::es) t)
  (hbase:attributeBase o name X.env (eval o X.env)=eval o X.env)
  (hfew:((backTo pos (starEach (e::es) X.env)).all (λx=>!x.1)&&(backToKw pos (keywordEach [] X.env)).all (λx=>x.1.isSome)
   &&decide ↑9)=true)
  (hline:(apos.endLine==pos.line)=true) (hs:starEach (e::es) X.env=(false,eval e X.env)::starEach es X.env) (hplain:(backTo pos (starEach es X.env)).any (·.1)=false):
  PE X (.Call (.Attribute o name apos) (e::es) [] pos) (λσ H Q=>to σ H λx d=>TY x d/\t σ d λvs m=>r x vs m Q):=by
 intro pins s σ H Q I h;refine wpAny_Call_method_late hbase hfew hline rfl (wU (ho pins s σ H _ I h) λv s1 ⟨x,d,I1,j,A,C⟩=>?_);obtain⟨n,u⟩:=b pins s1 σ d x v I1 j A;refine Y9 T id ⟨p,a,c,n,u,?_⟩;have i:=D pos pins s1 σ d _ I1 C;rw[hs]at i ⊢;refine Calls.callWith_builtin (by show(false || (backTo pos _).any (·.1))=false;rw[hplain]<;>rfl) (Calls.evalArgs_plain ?_);exact wU i λw B ⟨vs,m,q,k,y⟩=>z pins B σ m x vs v w Q q j k y
end
def VAt(d:Addr)(a:A0)(ep:Nat)(h:Heap):Prop:= ∃o es,h.get? d=some o/\o.ExactDict/\o.data=.dict es ep/\es.toList.map (·.val)=a
theorem VAt.size(x:VAt d us ep h): ∃o es,h.get? d=some o/\o.ExactDict/\o.data=.dict es ep/\es.size=us.length/\ ∀i (hi:i<es.size),us[i]? =some es[i].val:=by refine x.g λo es a b c e=>?_;refine YD o es a b c (by rw[<-e,lM0,ü]) (λi hi=>?_);rw[<-e,ë,û,Array.getElem?_eq_getElem hi];rfl
end M
end L2
namespace L2
open PySem PySem.Spec PyProof.Rows
section
variable{os:OsState}
def JN(F:ExcBaseFacts B newId initId bmB)(T:OwnTail h bmB bm){rest:A0}
  (hC:h.get? C=some ↑11) (hn:h.Ns N mN) (hi:mN "__init__"=some (.ref fI)) (hfI:h.get? fI=some oI) (hfc:oI.cls=.type "function")
  (hq: ∀h' e,Heap.MadeExcOf h h' e (.ref C) rest->wpAny ↑7 A (call (.ref fI) (.ref e::rest)) (λr u=>r=.none/\Q (.done (.ret (.ref e))) u) E ⟨h',g,d,t,os⟩) (hrest:rest.length<=sizeLine):
  wpAny ↑7 A (Builtin.«type.__call__» ⟨.ref C::rest,[]⟩) Q E ⟨h,g,d,t,os⟩:=by
 repeat (first |with_reducible refine ì hC ?_|with_reducible refine wpAny_madeBy_exc hC ?_|wp_step)
 refine codeAny_call_builtin_code (Code.quiet_builtin _ F.quiet) (wpAny_check_new_subT F T hC ?_);refine codeAny_exc_new_subT F T hC ?_ hrest;show wpAny _ _ _ _ _ _;have a:=hP0 {cls:=.ref C,data:=.fields #[.ref h.objs.size,.none,.none,.none,.bool false,.none]} (hP0 {cls:=.type "tuple",data:=.seq rest.toArray} hC);have c:=hP0 {cls:=.ref C,data:=.fields #[.ref h.objs.size,.none,.none,.none,.bool false,.none]} (hP0 {cls:=.type "tuple",data:=.seq rest.toArray} hfI)
 have j:((h.push {cls:=.type "tuple",data:=.seq rest.toArray}).push {cls:=.ref C,data:=.fields #[.ref h.objs.size,.none,.none,.none,.bool false,.none]}).Ns N mN:=
  let ⟨o,es,v,e,r⟩:=hn;(Zf o es v (hP0 _ (hP0 _ e)) r)
 have i:((h.push {cls:=.type "tuple",data:=.seq rest.toArray}).push {cls:=.ref C,data:=.fields #[.ref h.objs.size,.none,.none,.none,.bool false,.none]}).get? (h.objs.size+1)=some {cls:=.ref C,data:=.fields #[.ref h.objs.size,.none,.none,.none,.bool false,.none]}:=by heap_get
 have m:(Value.ref C::bm).contains (.ref C)=true:=by simp
 have k:=T.keeps (h':=(h.push {cls:=.type "tuple",data:=.seq rest.toArray}).push {cls:=.ref C,data:=.fields #[.ref h.objs.size,.none,.none,.none,.bool false,.none]}) λb o e=>hP0 _ (hP0 _ e);unfold isInstance
 repeat (first |with_reducible refine ì i ?_|(with_reducible refine wpAny_isSubtype_exc a ?_;rw[m])|wp_step)
 show wpAny _ _ (typeLookup (.ref C) _) _ _ _;refine wpAny_typeLookup_tail a j k F.mroIs F.init.lookup ?_;rw[hi];refine ö (wB ?_);unfold bindSpecial;refine wB (wpAny_typeOf (T:="function") (Z8 _ c hfc) ?_);rw[iP ↑4];refine wP (wB (ò (hq _ (h.objs.size+1) ⟨λb o p=>hP0 _ (hP0 _ p),Heap.get?_none_of_le (le_succ _),h.objs.size,i,Heap.get?_none_of_le (à _),?_⟩) (λr u n=>?_) λ_ _ x=>x))
 .exact hP0 _ (Heap.get?_push_at rfl rfl)
 .obtain⟨rfl,s⟩:=n
  wp_walk
  exact s
def Bt(F:ExcBaseFacts B newId initId bmB)(T:OwnTail h bmB bm){rest:A0}
  (hC:h.get? C=some ↑11) (hn:h.Ns N mN) (hi:mN "__init__"=some (.ref fI)) (hfI:h.get? fI=some oI) (hfc:oI.cls=.type "function")
  (hq: ∀h' e,Heap.MadeExcOf h h' e (.ref C) rest->wpAny ↑7 (A.under (.builtin "type.__call__" ⟨.ref C::rest,[]⟩)) (call (.ref fI) (.ref e::rest)) (λr m=>r=.none/\Q (.ref e) m) E ⟨h',g,d,t,os⟩) (hrest:rest.length<=sizeLine):
  wpAny ↑7 A (call (.ref C) rest) Q E ⟨h,g,d,t,os⟩:=by
 have b:=tc_lookup;have c:=tc_bind (.ref C);refine wpAny_call (codeAny_of_tree ?_);show wpAny _ _ _ _ _ _
 repeat (any_goals (first |assumption|with_reducible refine ì hC ?_|wp_step))
 refine⟨rfl,?_⟩;refine codeAny_call_builtin_at (Code.quiet_builtin _ ↑21) entry_typeCall (wpAny_check_type_call_sub hC (JN (hrest:=hrest) F T hC hn hi hfI hfc λh' e a=>?_));exact hq h' e a
end
section
def Bu(a:bm.contains (.type "BaseException")=true)(k:A.handled=none)
  (h:wpAny M A x (λv d=> ∃e m vs,v=.ref e/\d.heap.get? C=some ↑11/\d.heap.get? e=some {cls:=.ref C,dict:=m,data:=.fields #[.ref vs,.none,.none,.none,.bool false,.none]}/\E (.ref e) d) E s):
  wpAny M A (raiseStmt env (some x) none) Q E s:=by
 have c:(Value.ref C::bm).contains (.type "BaseException")=true:=by rw[ĉ,a,Bool.or_true]
 refine wB (ò h (λv d b=>?_) λ_ _ x=>x);refine b.n λe m vs g i j n=>?_;subst g
 repeat (first |with_reducible refine ì j ?_|with_reducible refine ì i ?_|(with_reducible refine wpAny_isSubtype_exc i ?_;rw[c])|wp_step)
 exact wpAny_raiseNew_none k n
def IU(F:ExcBaseFacts B newId initId bmB)
  (hbase:bm.contains (.type "BaseException")=true) (hh:A.handled=none) (hplain:(backTo cpos (starEach args env)).any (·.1)=false) (hi:mN "__init__"=some (.ref fI)) (hfc:oI.cls=.type "function")
  (h:wpAny ↑7 A (eval (.Name x np) env) (λf u=>f=.ref C/\wpAny ↑7 A (evalArgs (.ref C) true (backTo cpos (starEach args env)) [])
   (λa m=>a.kw=[]/\a.pos.length<=sizeLine/\m.heap.get? C=some ↑11/\m.heap.Ns N mN/\OwnTail m.heap bmB bm/\m.heap.get? fI=some oI/\
    ∀h' e,Heap.MadeExcOf m.heap h' e (.ref C) a.pos->wpAny ↑7 (A.under (.builtin "type.__call__" ⟨.ref C::a.pos,[]⟩)) (call (.ref fI) (.ref e::a.pos))
     (λr D=>r=.none/\ ∃G vs,D.heap.get? C=some ↑11/\D.heap.get? e=some {cls:=.ref C,dict:=G,data:=.fields #[.ref vs,.none,.none,.none,.bool false,.none]}/\E (.ref e) D) E {m with heap:=h'}) E u) E s):
  wpAny ↑7 A (exec (.Raise (some (.Call (.Name x np) args [] cpos)) none pos) env) Q E s:=by
 rw[arm_exec_Raise]
 first
  |refine wB (đ (Bu (C:=C) (nm:=nm) (q:=q) (N:=N) (bs:=bs) (hdct:=hdct) (sn:=sn) (sub:=sub) (ab:=ab) (col:=col) (dd:=dd) (k0:=k0) (k1:=k1) (k2:=k2) (k3:=k3) (k5:=k5) (newId:=newId) hbase hh (wB (ò (wpAny_Call_ofName (ò h (λf u c=>?_) λ_ _ x=>x)) (λv y i=>wB (đ (wP i))) λ_ _ x=>x))))
  |(simp only[evalOpt,Option.map];refine wB _)
 obtain⟨rfl,c⟩:=c;unfold callWith;refine wB (ö (ò c (λa m b=>wB (đ ?_)) λ_ _ x=>x));obtain⟨apos,n⟩:=a;refine b.t λo j p L T k b=>?_;obtain rfl:n=[]:=o;obtain⟨P,g,d,O,os⟩:=m;simp only[hplain];refine wB (wpAny_keeperOf_exc p ?_);refine wB (Bt (hrest:=j) F T p L hi k hfc λh' e M=>ò (b h' e M) (λr D ⟨H,G,vs,J,K,I⟩=>⟨H,wB (ö (wpAny_point (wP (ZY e G vs rfl J K I))))⟩) λ_ _ z=>z)
end
open Builtin Builtin.ObjectAttr
section
variable{os:OsState}
def Bv(O:tR h C M)(i:h.get? x=some o)(e:o.cls=.ref C)(c:Q () ⟨h,g,d,t,os⟩):
  wpAny Mo A (checkBuiltinCall "object.__setattr__" ⟨[.ref x,nameV,v],[]⟩) Q E ⟨h,g,d,t,os⟩:=by
 have b:=F.store_ValueError;have a:(Value.ref C::.ref M::qC).contains (.type "object")=true:=by simp[ĉ]
 have j:=b.args (.ref x) nameV v;simp only[checkBuiltinCall,b.kind,b.split];refine wB ?_
 .unfold isInstance
  repeat (first |(with_reducible refine ì i ?_;rw[e])|(with_reducible refine tS O ?_;rw[a])|wp_step)
  exact c
def SetAt(h h':Heap)(x:Addr)(o:Obj)(name:Str)(v:Ł)(a:Addr):Prop:=
 h.get? a=none/\a≠x/\h'.get? x=some {cls:=o.cls,dict:=some a,data:=o.data,slots:=o.slots}/\h'.Ns1 a (λy=>if y=name then some v else none)/\ ∀b c,b≠x->h.get? b=some c->h'.get? b=some c
def Bw(O:tR h C M)(P:h.get? C=some (excClassObj nm q C N bs (.ref M::qC) true sn sub ab col dd k0 k1 k2 k3 k5 newId))(n:h.get? x=some o)(U:o.cls=.ref C)(s:o.dict=none)(G: ∀c,o.data≠.cls c)
  (hn:name∈qn) (hB:typeLookup ↑29 name=pure none) (hq: ∀h' u T,SetAt h h' x o name v T->Q (.done (.ret .none)) ⟨h',g,d,u,os⟩):
  wpAny ↑7 A (Builtin.«object.__setattr__» ⟨[.ref x,.str name tk,v],[]⟩) Q E ⟨h,g,d,t,os⟩:=by
 have i:=F.store_ValueError.passes (.ref x);unfold Builtin.«object.__setattr__»
 repeat (first |rw[refuse_eq]|(rw[refuseLoop_ref,refuseLoop_ref,i])|(with_reducible refine ì n ?_;rw[U])|with_reducible refine wpAny_mroOf_exc P ?_|with_reducible refine rK O hn hB ?_|wp_step)
 rw[s,iN0 (by simp[typeHasDict])];split
 .rename_i k;cases k
 split
 .rename_i c k;exact absurd k (G c)
 .have a:(h.push {cls:=.type "dict",data:=.dict #[]}).get? x=some o:=hP0 _ n;have j:x≠h.objs.size:=ê (ã n);refine wB (wpAny_alloc' ?_);refine wB (wpAny_update' a ?_);refine wP ?_
  have H:((h.push {cls:=.type "dict",data:=.dict #[]}).update x λo=>{cls:=o.cls,dict:=some h.objs.size,data:=o.data,slots:=o.slots}).get? h.objs.size=some {cls:=.type "dict",data:=.dict #[]}:=
   (Heap.get?_update_ne _ _ _ _ j.symm).trans (Heap.get?_push_at rfl rfl)
  have z:((h.push {cls:=.type "dict",data:=.dict #[]}).update x λo=>{cls:=o.cls,dict:=some h.objs.size,data:=o.data,slots:=o.slots}).Ns h.objs.size (λ_=>none):=
   (ZY _ (#[]) _ H rfl (λe K=>absurd K (by simp)) (λ_=>rfl))
  show wpAny _ _ (storeInDict h.objs.size (.str name tk) name v) _ _ _;unfold storeInDict newKeyGuard;refine wB (wP (wB (wpAny_nsSet1 (Heap.Ns1.of_empty z) λh' m hs=>?_)));refine(m.count (Within.cons name v Within.nil)).l λY L W R=>R.e λD p y=>?_;refine wB (wpAny_lookBehind D (by rw[p];exact pastItsLine_dict (í y (by rw[lC0,ç,ô];omega))) ?_)
  wp_walk
  refine hq h' _ h.objs.size ⟨Heap.get?_none_of_le (à _),j.symm,?_,m,λb X B J=>(hs.2 b (ê (ã J))).trans ((Heap.get?_update_ne _ _ _ _ B).trans (hP0 _ J))⟩;refine(hs.2 x j).trans (Ć _ a ?_);have I:=(Heap.get?_some_iff.mp n).2;obtain⟨Z,od,r,S⟩:=o;cases r<;>first |rfl|exact I
def RF(O:tR h C M)(k:h.get? C=some (excClassObj nm q C N bs (.ref M::qC) true sn sub ab col dd k0 k1 k2 k3 k5 newId))(a:h.get? x=some o)(i:o.cls=.ref C)(e:o.dict=none)(b: ∀c,o.data≠.cls c)
  (hn:name∈qn) (hB:typeLookup ↑29 name=pure none) (hq: ∀h' m u,SetAt h h' x o name v u->Q () ⟨h',g,d,m,os⟩):wpAny ↑7 A (setAttr (.ref x) name v) Q E ⟨h,g,d,t,os⟩:=by
 have n:=F.store_ValueError.slot.bind (.ref x);have j:("__setattr__":Str)∈qn:=by decide
 unfold setAttr callSpecial? specialOf
 repeat (any_goals (first |assumption|(with_reducible refine ì a ?_;rw[i])|with_reducible refine rK O j F.store_ValueError.slot.lookup ?_|wp_step))
 refine ė F.store_ValueError.slot.plain F.store_ValueError.entry (Bv O a i (Bw O k a i e b hn hB λh' m u hs=>?_))
 repeat (any_goals (first |assumption|wp_step))
 exact hq h' m u hs
def Bx(O:tR h C M)(m:↑51)(j:h.get? x=some o)(k:o.cls=.ref C)(a:o.dict=some dx)(b: ∀c,o.data≠.cls c)(e:h.Ns1 dx mA)(n:mA name=some v)
  (hn:name∈qn) (hB:typeLookup ↑29 name=pure none) (hq:Q (.done (.ret v)) ⟨h,g,d,t,os⟩):
  wpAny ↑7 A (Builtin.«object.__getattribute__» ⟨[.ref x,.str name tk],[]⟩) Q E ⟨h,g,d,t,os⟩:=by
 repeat (any_goals (first |assumption|(with_reducible refine ì j ?_;rw[k])|with_reducible refine rK O hn hB ?_|wp_step))
 split
 .rename_i c i;exact absurd i (b c)
 unfold instanceDict
 repeat (first |(with_reducible refine ì j ?_;rw[k])|with_reducible refine ì m ?_|wp_step)
 rw[a]
 repeat (first |(with_reducible refine wpAny_nsGet e.ns ?_;rw[n])|wp_step)
 exact hq
def Wp{a:Bool}(O:tR h C M)(n:↑51)(e:h.get? x=some o)(k:o.cls=.ref C)(b:o.dict=some dx)(i: ∀c,o.data≠.cls c)(j:h.Ns1 dx mA)(p:mA name=some v)
  (hn:name∈qn) (hB:typeLookup ↑29 name=pure none) (hh:handedOut v=pure v) (hq:Q v ⟨h,g,d,t,os⟩):
  wpAny ↑7 A (getAttrBy (.ref x) (.str name tk) a expr) Q E ⟨h,g,d,t,os⟩:=by
 have u:=F.attrBase_ValueError.ga.bind (.ref x);have r:(expr&&onTheHeap (Value.builtin "BaseException.__getattribute__"))=false:=by cases expr<;>rfl
 have m:(Value.builtin "BaseException.__getattribute__"==Value.builtin "object.__getattribute__")=false:=by decide+kernel
 have s:(onTheHeap (Value.ref C)&&Value.builtin "BaseException.__getattribute__"==Value.builtin "object.__getattribute__")=false:=by rw[m];rfl
 repeat (any_goals (first |assumption|(with_reducible refine ì e ?_;rw[k])|with_reducible refine rK O qn2 Zn ?_|with_reducible refine rK O qn3 WY ?_|wp_step))
 refine (ė F.attrBase_ValueError.ga.plain F.entry_bexc_ga (QM O e k (Bx O n e k b i j p hn hB ?_)))
 repeat (any_goals (first |assumption|rw[hh]|wp_step))
def RH(O:tR h C M)(j:↑51)(i:h.get? x=some o)(m:o.cls=.ref C)(a:o.dict=some dx)(b: ∀c,o.data≠.cls c)(e:h.Ns1 dx mA)(k:mA name=some v)
  (hn:name∈qn) (hB:typeLookup ↑29 name=pure none) (hh:handedOut v=pure v) (hq:Q v ⟨h,g,d,t+1,os⟩):wpAny ↑7 A (getAttr (.ref x) name expr) Q E ⟨h,g,d,t,os⟩:=by
 unfold getAttr
 repeat (any_goals (first |assumption|with_reducible apply Wp O j i m a b e k hn hB hh|wp_step))
end
theorem MI:typeLookup ↑29 "place"=pure none:=by rw[typeLookup_type,builtinLookup_eq_fast];kernel_rfl
noncomputable abbrev BH(C:Addr)(d:Option Addr)(t:Addr):Obj:={cls:=.ref C,dict:=d,data:=.fields #[.ref t,.none,.none,.none,.bool false,.none]}
section
variable{os:OsState}
def MK(F:ExcBaseFacts B newId initId bmB)(T:OwnTail h bmB bm)(i:h.get? C=some ↑11)(c:h.get? x=some (BH C none t0))
  (hq: ∀h' v,h'.get? x=some (BH C none v)->(∀b m,b≠x->h.get? b=some m->h'.get? b=some m)->Q .none ⟨h',g,d,t,os⟩):wpAny ↑7 A (call (.builtin initId) [.ref x,u]) Q E ⟨h,g,d,t,os⟩:=by
 refine wpAny_call (ė F.init.plain F.initEntry (wpAny_check_init_subT F T i c rfl ?_))
 wp_walk
 refine hq _ (h.objs.size) ?_ λb m e a=>?_
 .rw[Ć _ (hP0 _ c) rfl];rfl
 .rw[ó _ _ (Ne.symm e)];exact hP0 _ a
end
noncomputable abbrev A1:Nat:=10 ^ 100
inductive JL(par:Str):List Expr->Prop
 |nil:JL par []
 |txt {y:Str} {k:Nat} {pos:Pos} {es:O0}:y.length<=200->JL par es->JL par (.Constant (.str y) k pos::es)
 |fld {p pos:Pos} {es:O0}:JL par es->JL par (.FormattedValue (.Name par p) (-1) none pos::es)
section
variable{i:Nat}{σ:St}{H:Hp}
theorem Oq(C:X.N[i]? =some par)(D:La ↑23 par)(hd:(par==("__debug__"))=false)(c:↑44)(hs:σ[i]? =some (some (.int n)))(q:n.natAbs<A1)(B: ∀y s,y.length<=100000->Inv X pins σ H s->Q y s)
   (hj:JL par es): ∀ d  s ,d.length+200 * es.length<=100000->Inv X pins σ H s->Joins ↑5 X.A X.xe (evalEach es X.env) d Q s:=by
 induction hj with
 |nil=>intro d s b I;exact B d s (by simpa using b) I
 |@txt y k pos es hy h ih=>
  intro d s b I;rw[lC0]at b;have sl:(d++y).length=d.length+y.length:=PySem.strLen_append ..;refine wU (Aj pins s σ H (λv H'=>v=.str y/\H'=H) I ⟨rfl,rfl⟩) λu s1 ⟨v,H',e,r,j,m⟩=>?_;subst j m;obtain⟨o,rfl⟩:=r;exact Z3 y o rfl (by rw[sl,ô];lia) (ih _ s1 (by rw[sl];lia) e)
 |@fld p pos es h ih=>
  intro d s b I;rw[lC0]at b;have len:(Str.ofString (toString n)).length<=101:=by rw[PySem.ofString_length];exact int_text_length_le10 ↑4 q
  have sl:(d++(toString n:Str)).length<=d.length+101:=by have:=PySem.strLen_append d (toString n:Str);rw[this];exact Nat.add_le_add_left len _
  have a:n.natAbs.log2<1920:=by
   by_cases z:n.natAbs=0
   .rw[z];decide
   .exact(Nat.log2_lt z).mpr (lt_trans q ↑21)
  refine wpAny_FormattedValue_plain (wU (uL C D hd c pins s σ H (λv H'=>v=.int n/\H'=H) I (Z1 _ hs rfl rfl)) λu s1 ⟨v,H',e,r,j,m⟩=>?_);subst j m;obtain⟨o,rfl⟩:=r;exact wpAny_formatField_int a (Z3 _ _ rfl (by rw[ô];lia) (ih _ _ #[0] (e.tok _)))
def tJ(i:Nat):TE:=λσ H Q=> ∃n,σ[i]? =some (some (.int n))/\n.natAbs<A1/\ ∀y:Str,Q (.str y) H
theorem Wq(b:X.N[i]? =some par)(d:La ↑23 par)(hd:(par==("__debug__"))=false)(a:↑44)(h:JL par (v1::v2::vs))(j:↑47<=100):PE X (.JoinedStr (v1::v2::vs) pos) (tJ i):=by
 intro pins s σ H Q I ⟨n,hs,c,q⟩;refine wpAny_JoinedStr (Oq b d hd a hs c (λy s1 e I1=>⟨by rw[ô];lia,.str y,H,I1.tok _,⟨_,rfl⟩,q y⟩) h _ s ?_ I);rw[lC0,lC0];show 0+_<=_
 lia
end
noncomputable def Wr(H:Hp)(e:Addr):Hp:=λb=>if b=e then none else H b
def BI(h:b≠e):Wr H e b=H b:=by unfold Wr;rw[iN0 h]
def ML:Wr H e e=none:=by unfold Wr;rw[iP rfl]
def Inv.untrack(J:↑1)(i:H e=some (.ext d)):Inv X pins σ (Wr H e) s:=by
 have ne: ∀b u,H b=some u->(∀d,u≠.ext d)->b≠e:=λb u q z y=>by rw[y,i]at q;cases q;exact z _ rfl
 have a: ∀b,H b=none->Wr H e b=none:=λb q=>by unfold Wr;split<;>trivial
 refine⟨J.ok,J.os,J.bare,⟨J.base.keep,J.base.slot,λb m q n j=>a b (J.base.free b m q n j),J.base.there,λb xs q=>?_,λb h u q=>?_,λb ps q=>?_⟩,J.loc,J.cell,a _ J.free,λx c w=>a _ (J.freeC x c w),λp k=>?_,λb u q=>?_,J.len⟩
 .rw[BI (ne b _ (J.base.tups b xs q) λ_ z=>by cases z)];exact J.base.tups b xs q
 .rw[BI (ne b _ (J.base.frzs b h u q) λ_ z=>by cases z)];exact J.base.frzs b h u q
 .obtain⟨o,z⟩:=J.base.tbls b ps q;exact⟨o,by rw[BI (ne b _ z λ_ z=>by cases z)];exact z⟩
 .refine(J.pin p k).e λv n r=>?_;exact⟨v,a _ n,r⟩
 .by_cases z:b=e
  .rw[z,ML]at q;cases q
  .rw[BI z]at q;exact(J.hok b u q).stay (λ_ _ _ r=>r) (λc r=>by rw[BI (ne c _ r λ_ z=>by cases z)];exact r) λc xs r=>by rw[BI (ne c _ r λ_ z=>by cases z)];exact r
namespace M
structure XIn(K:P0)(M C f:Addr):Prop where
 ex: ∃nm q N bs sn sub ab col dd k0 k1 k2 k3 k5,K.lookup C=some (excClassObj nm q C N bs (.ref M::qC) true sn sub ab col dd k0 k1 k2 k3 k5 "ValueError.__new__")/\PySem.W.nsOkIn K N=true/\PySem.W.nsIn K N "__init__"=some (some (.ref f))/\ ∀n∈qn,PySem.W.nsIn K N n=some none
 fo: ∃o,K.lookup f=some o/\o.cls=.type "function"
def XIn.cl{K:P0}(x:XIn K M C f):DL K C (.ref M::qC) (some (.ref f)):=by refine x.ex.s λnm q N bs j e r h k m n p o i a b c d=>?_;exact⟨nm,q,N,bs,true,j,e,r,h,k,m,n,p,o,i,a,b,c,d,rfl⟩
structure XMn(K:P0)(M:Addr):Prop where
 ga:PySem.W.specialIn K (.ref M) "__getattribute__"=some (some (.builtin "type.__getattribute__"))
 rd:PySem.W.readsIn K M (.type "type")=true
 init:PySem.W.findCls K (.ref M) (.type "type") "__init__"=some (.val (.builtin "ValueError.__init__"))
def Et(C:Addr)(b:Str):Sp:=λd H Q _=> ∃e n i,d=[.ref e,.int n]/\n.natAbs<A1/\H e=some (.ext λh=>h.get? e=some (BH C none i))/\
 ∀a c j,H a=none->a≠e->Q .non (yQ (yQ H a (.frz c (.xd [(b,.int n)]))) e (.ext λh=>h.get? e=some (BH C (some a) j)))
def Eu{K:P0}(X:K.In h)(m:DL K M qC none):OwnTail h qC (.ref M::qC):=by obtain⟨_,_,d,_,_,_,_,_,_,_,_,_,_,_,_,b,a,c,_⟩:=m;exact .own (X _ _ b) (.of_isNs (PySem.W.isNs_of_in X a)) (PySem.W.nsMap_none_of_in X a c) .base
section
variable{p6 p10:Pos}
def Ew{A:Nat}(O:Inv X pins σ (yQ G e (.ext λh=>h.get? e=some (BH C none A))) s)(r:RelV v u)(st:L2.SetAt s.heap h6 e (BH C none A) fld u dx):
  G dx=none/\dx≠e/\ ∃B,Inv X pins σ (yQ (yQ G dx (.frz B (.xd [(fld,v)]))) e (.ext λh=>h.get? e=some (BH C (some dx) A))) {s with heap:=h6,toks:=tk6}:=by
 refine st.h λP I q D J=>?_;refine(id D).m λB S U M r6=>?_;have n:G dx=none:=by have:=O.hok.none_of P;rwa [zH I]at this
 refine⟨n,I,B,?_⟩;have i: ∀b,b≠e->(yQ (yQ G dx (.frz B (.xd [(fld,v)]))) e (.ext λh=>h.get? e=some (BH C (some dx) A))) b=yQ G dx (.frz B (.xd [(fld,v)])) b:=λb p=>zH p;have m: ∀b o,G b=some o->b≠dx:=λb o z y=>by rw[y,n]at z;cases z
 have d: ∀b,b≠e->(yQ G e (.ext λh=>h.get? e=some (BH C none A))) b=G b:=λb p=>zH p;refine O.un (h':=h6) (t':=tk6) ⟨λb o z j _ _=>J b o (λy=>by rw[y,zI]at j;cases j) z,λb o z j _ _=>⟨o.slots,J b o (λy=>by rw[y,zI]at j;cases j) z⟩,λb o z j _=>?_,λb o z _=>?_,λb xs z=>?_,λb Y N z=>?_,λb ps z=>?_⟩ λb N z=>?_
 .have a:b≠e:=λy=>by rw[y,zI]at j;cases j
  rw[d b a]at j;rw[i b a,zH (λy=>by rw[y]at z;exact absurd (show s.heap.get? dx=some o from z) (by rw[P];simp))];exact j
 .by_cases a:b=e
  .exact⟨_,by rw[a];exact q⟩
  .exact⟨o,J b o a z⟩
 .have a:b≠e:=λy=>by rw[y,zI]at z;cases z
  rw[d b a]at z;rw[i b a,zH (m b _ z)];exact z
 .have a:b≠e:=λy=>by rw[y,zI]at z;cases z
  rw[d b a]at z;rw[i b a,zH (m b _ z)];exact z
 .have a:b≠e:=λy=>by rw[y,zI]at z;cases z
  rw[d b a]at z;exact⟨#[],by rw[i b a,zH (m b _ z),z];simp⟩
 .by_cases a:b=e
  .subst a;rw[zI]at z;cases z;exact⟨q,⟨_,q⟩,λW Z z k=>k _ z⟩
  .rw[i b a]at z;by_cases E:b=dx
   .subst E;rw[zI]at z;cases z;refine⟨M,_,D,λy=>?_⟩;by_cases L:y=fld
    .subst L;rw[iP rfl,List.lookup_cons_self];exact r
    .rw[iN0 L];have:(([(fld,v)]:List (Str×V))).lookup y=none:=by rw[ğ];rw[show(y==fld)=false from by simpa using L];rfl
     rw[this];trivial
   .rw[zH E]at z;have Q:(yQ G e (.ext λh=>h.get? e=some (BH C none A))) b=some N:=by rw[d b a];exact z
    have H: ∀c o,(yQ G e (.ext λh=>h.get? e=some (BH C none A))) c=some o->(∀T,o≠.ext T)->(yQ (yQ G dx (.frz B (.xd [(fld,v)]))) e _) c=some o:=λc o w ne=>by
     have F:c≠e:=λy=>by rw[y,zI]at w;cases w;exact ne _ rfl
     rw[d c F]at w;rw[i c F,zH (m c _ w)];exact w
    refine(O.hok b N Q).stay (λc v K r=>J c v ?_ r) (λc w=>H c _ w λ_ y=>by cases y) λc xs w=>H c _ w λ_ y=>by cases y
    rcases K with rfl|K
    .exact a
    .intro y;rw[y,zI]at K;cases K
def Os(hM:DL X.K M qC none)(XI:XIn X.K M C f)(Q:XMn X.K M)(P:X.mg "MendError"=some (.ref M))(hg:Gl X "MendError")(A:X.N[0]? =some ("self":Str))(p:X.N[1]? =some par)(o:La ↑23 "self")(w:La ↑23 par)
  (hd:(par==("__debug__"))=false) (hcd:↑44) (hj:JL par (v1::v2::vs)) (hl:↑47<=100) (hf:fld∈qn) (hB:typeLookup ↑29 fld=pure none) (hcalm:X.calm=true)
  (ht:eval ↑2 X.env=(do
   let ov <-eval (.Name "MendError" p1) X.env
   standAt p2.atName
   let (f,first) <-holding [ov] (getMethod ov "__init__" pl)
   callWith p5 f first (backTo p5 (starEach [.Name "self" p3,.JoinedStr (v1::v2::vs) p4] X.env)) (backToKw p5 (keywordEach [] X.env))))
  (hs1:swapsWith ↑2 none p6.line X.env=pure false) (hs2:swapsWith (.Name par p9) (some (.Attribute (.Name "self" p7) fld p8)) p10.line X.env=pure false)
  (he:starEach [Expr.Name "self" p3,.JoinedStr (v1::v2::vs) p4] X.env=(false,eval (.Name "self" p3) X.env)::starEach [.JoinedStr (v1::v2::vs) p4] X.env:=by rfl) (he2:starEach [Expr.JoinedStr (v1::v2::vs) p4] X.env=(false,eval (.JoinedStr (v1::v2::vs) p4) X.env)::starEach [] X.env:=by rfl)
  (hpl:(backTo p5 (starEach [Expr.JoinedStr (v1::v2::vs) p4] X.env)).any (·.1)=false:=by rfl):
  PSs X [.Expr ↑2 p6,.Assign [.Attribute (.Name "self" p7) fld p8] (.Name par p9) p10]
   (λD σ H=> ∃e n O,σ[0]? =some (some (.ref e))/\σ[1]? =some (some (.int n))/\n.natAbs<A1/\H e=some (.ext λh=>h.get? e=some (BH C none O))/\
    ∀m T d,H m=none->m≠e->D.nx σ (yQ (yQ H m (.frz T (.xd [(fld,.int n)]))) e (.ext λh=>h.get? e=some (BH C (some m) d)))):=by
 intro pins s σ H D I ⟨e,n,O,s0,s1,hb,Y,q⟩;refine XI.ex.s λnm qq N bs sn aa ab ai dd k0 k1 k2 k3 k5 lC oN iN qN=>?_;refine Ğ (wpAny_Expr_any ?_ I.quiet hs1);refine PySem.W.methodCall_KW (pl:=pl) (pE I hg P ?_) ht;refine PySem.W.method_cls I.kIn Q.ga (PySem.W.cls_value I.kIn Q.rd Q.init rfl ?_);refine PyProof.Rows.callWith_builtin1 (wU (gU (uL (X:=X) A o) (gU (Wq p w hd hcd hj hl) sP he2) he p5 pins _ σ H (λvs H1=> ∃y,vs=[.ref e,.str y]/\H1=H) (I.tok _) ⟨_,s0,n,s1,hb,λy=>⟨y,rfl,rfl⟩⟩) ?_) he hpl;rintro us s2 ⟨ae,H2,i,r2,y,e2,e3⟩;subst e2;rw[e3]at i
 obtain⟨Z,rfl⟩: ∃Z,us=[.ref e,Z]:=by
  cases r2 with
  |cons r1 r=>cases r with
   |cons r2 r=>cases r;cases r1;exact⟨_,rfl⟩
 have L:s2.heap.get? e=some (BH C none O):=(i.hok e _ Y).1;have mu:F2 (H e):=by rw[Y];trivial
 obtain⟨ag,g2,d2,j,G⟩:=s2;refine MK F.excBase_ValueError (Eu i.kIn hM) (i.kIn _ _ lC) L λh3 d a S=>?_
 have I3:Inv X pins σ (yQ H e (.ext λh=>h.get? e=some (BH C none d))) ⟨h3,g2,d2,j,G⟩:=
  i.write (t':=j) mu (.inl rfl) (λb u E hu=>S b u E hu) ⟨_,a⟩ ⟨a,⟨_,a⟩,λh1 h2 z k=>k _ z⟩
 refine Ğ (plainObj_wpAny_Assign_Attribute ?_ hs2);refine wU (uL (X:=X) p w hd hcd pins _ σ _ (λv H'=>v=.int n/\H'=yQ H e (.ext λh=>h.get? e=some (BH C none d))) I3 (Z1 _ s1 rfl rfl)) ?_;rintro u s4 ⟨v4,H4,I4,r4,e4,e5⟩;subst e4 e5;refine wU (uL (X:=X) A o ↑4 ↑4 pins _ σ _ (λv H'=>v=.ref e/\H'=yQ H e (.ext λh=>h.get? e=some (BH C none d))) I4 (Z1 _ s0 rfl rfl)) ?_;rintro u5 U ⟨v5,H5,B,r5,e6,e7⟩;subst e6 e7;cases r5;have J:U.heap.get? e=some (BH C none d):=(B.hok e _ zI).1;obtain⟨aj,g5,d5,af,ah⟩:=U;refine RF (uY B.kIn XI.cl hM) (B.kIn _ _ lC) J rfl rfl (λc z=>by cases z) hf hB λh6 tk6 m st=>ĕ ?_;obtain⟨z1,z2,T,I6⟩:=Ew (tk6:=tk6) B r4 st;exact Z0 (σ) _ I6 (q m T d z1 z2)
end
section
variable{K:P0}{st:Stmt}
def Wt{pl:Env->Sem Bool}(j:Fun K "__init__" qual st f fd)(h:FnScope ["self",par] ["self",par] (zE st))(o:DL K M qC none)(p:XIn K M C f)(u:XMn K M)(a:mg "MendError"=some (.ref M))
  (hbd:wK st=[.Expr ↑2 p6,.Assign [.Attribute (.Name "self" p7) fld p8] (.Name par p9) p10])
  (ht: ∀env:Env,eval ↑2 env=(do
   let m <-eval (.Name "MendError" p1) env
   standAt p2.atName
   let (f,first) <-holding [m] (getMethod m "__init__" (pl env))
   callWith p5 f first (backTo p5 (starEach [.Name "self" p3,.JoinedStr (v1::v2::vs) p4] env)) (backToKw p5 (keywordEach [] env))))
  (hs1: ∀env:Env,swapsWith ↑2 none p6.line env=pure false) (hs2: ∀env:Env,swapsWith (.Name par p9) (some (.Attribute (.Name "self" p7) fld p8)) p10.line env=pure false)
  (hg:(zE st).names.lookup ("MendError":Str)=some .globalImplicit) (h0:(zE st).names.lookup ("self":Str)=some .local) (h1:(zE st).names.lookup par=some .local)
  (hd:(par==("__debug__"))=false) (hcd:↑44) (hj:JL par (v1::v2::vs)) (hl:↑47<=100) (hf:fld∈qn) (hB:typeLookup ↑29 fld=pure none):FnOk P w K mg base EY 1 f fd ["self",par] (Et C fld):=by
 refine j.ok h (λb H Q E ⟨e,n,d,z,_⟩=>by rw[z];rfl) λk A c s H b Q E v ⟨e,n,d,z,i,r,q⟩=>?_;subst z;rw[hbd];exact⟨_,Os o p u a hg rfl rfl (.inl h0) (.inl h1) hd hcd hj hl hf hB rfl (ht _) (hs1 _) (hs2 _),e,n,d,rfl,rfl,i,r,q⟩
end
end M
end L2
namespace L2
section
open PySem PySem.Spec PyProof.Rows
def Inv.trackE(J:↑1)(o:Out X pins H s e)(a:s.heap.get? e=some ob):Inv X pins σ (yQ H e (.ext λh=>h.get? e=some ob)) s:=J.trackU o ⟨a,⟨ob,a⟩,λ_ _ p k=>k _ p⟩
end
namespace M
open PySem PySem.Spec PyProof.Rows
def MM{K:P0}(X:K.In h)(G:h.Ns N mg)(e:PySem.W.nsIn K N n=some (some v)):mg n=some v:=by
 refine G.n λo es r k i _ b=>?_;unfold PySem.W.nsIn at e;split at e
 .rename_i c d j p sl q;have:=X _ _ q;rw[k]at this;cases this;cases i;split at e
  .rename_i m a;cases e;rw[<-b];unfold nsFind findBy;rw[<-Array.find?_toList,a];rfl
  .split at e<;>cases e
 .cases e
def zEN(x a:Str):Er->Sto->R Fl
 |.val (.int n),S=>if n.natAbs<A1 then .exc x [(a,.int n)] S else .no
 |_,_=>.no
section
variable{pos np cpos:Pos}
def Jk(hx:XOk X E)(hg:Gl X x)(hm:X.mg x=some (.ref C))(hM:DL X.K M qC none)(XI:XIn X.K M C f)(G:FnOk X.prog X.w X.K X.mg X.base EY 1 f fd ["self",par] (Et C fld))(hb:Binds X.K fd ["self",par] [])(hr:Room k X.A)(ha:zR X (WE X.g E) e fe)
  (hk:2<=k:=by decide) (hex:X.ex=[]:=by rfl) (hcalm:X.calm=true:=by rfl) (hd:↑35=false:=by decide) (he:starEach [e] X.env=(false,eval e X.env)::starEach [] X.env:=by rfl) (hpl:(backTo cpos (starEach [] X.env)).any (·.1)=false:=by rfl):
  LN X (WE X.g E) (.Raise (some (.Call (.Name x np) [e] [] cpos)) none pos) (λρ S=>(fe ρ S).bind (zEN x fld)):=by
 refine ha.a λta ha fa=>?_;refine⟨λD σ H=>ta σ H λv i=> ∃n,v=.int n/\n.natAbs<A1/\ ∀c d,i c=none->E (.ref C) (some c) (yQ i c (.frz d (.xd [(fld,.int n)]))),λpins s σ H D I h=>?_,λα ρ S σ H D wd sl q=>fa α ρ S σ H _ wd sl (q.expr λv r S1 ae i e1 x1 w1 d1 L=>?_)⟩
 .refine XI.ex.s λnm q N bs sn sub ab col dd k0 k1 k2 k3 k5 lC oN iN qN=>?_;refine XI.fo.a λoI lI cI=>?_;have P:=I.mod.kin;have hN:=Heap.Ns.of_isNs (PySem.W.isNs_of_in P oN);have af:=MM P hN iN;have T:=Eu P hM
  refine IU (C:=C) (nm:=nm) (q:=q) (N:=N) (bs:=bs) (hdct:=true) (sn:=sn) (sub:=sub) (ab:=ab) (col:=col) (dd:=dd) (k0:=k0) (k1:=k1) (k2:=k2) (k3:=k3) (k5:=k5) (fI:=f) (oI:=oI)
   F.excBase_ValueError (T.hasType F.excBase_ValueError.hasBase) (I.ok.hd hcalm) (by rw[he];exact hpl) af cI (pE I hg hm ⟨rfl,?_⟩ hd)
  have Y:=gU ha sP he cpos pins s σ H (λvs i=>match vs with |[v]=> ∃n,v=.int n/\n.natAbs<A1/\ ∀c d,i c=none->E (.ref C) (some c) (yQ i c (.frz d (.xd [(fld,.int n)])))|_=>False) I h;rw[he]at Y ⊢;refine Calls.evalArgs_plain (wU Y λB s1 ⟨vs,i,I1,r1,hv⟩=>?_)
  obtain⟨v0,rfl,n,rfl,hn,hE⟩: ∃v0,vs=[v0]/\ ∃n,v0=.int n/\n.natAbs<A1/\ ∀c d,i c=none->E (.ref C) (some c) (yQ i c (.frz d (.xd [(fld,.int n)]))):=by
   match vs,hv with
   |[v],hv=>exact⟨v,rfl,hv⟩
  have o:↑16=1:=by rw[<-r1.length];rfl
  refine⟨rfl,by show ↑16<=_;rw[o];decide,I1.bk _ _ (P _ _ lC),hN.keeps I1.bk,T.keeps I1.bk,I1.bk _ _ (P _ _ lI),λh' a mk=>?_⟩;have J1:Inv X pins σ i {s1 with heap:=h'}:=I1.kept (t':=s1.toks) mk.keeps;refine mk.there.c λt0 Q _ _=>?_;have oa:Out X pins i {s1 with heap:=h'} a:=⟨I1.older hex mk.new,I1.hok.none_of mk.new,λp hp z=>(by have:=(I1.pin p hp).1;rw[z,mk.new]at this;cases this),_,_,Q,rfl⟩
  have J2:=J1.trackE oa Q;have rv:Vals [.ref a,.int n] (.ref a::B):=.cons rfl r1
  refine wpAny_call (Ė (G.run _ X.stack _ _ ⟨.ref a::B,[]⟩ (.ref a::B) [.ref a,.int n] (λv H'=>v=.non/\ ∃c d O,i c=none/\c≠a/\H'=yQ (yQ _ c (.frz d (.xd [(fld,.int n)]))) a (.ext λh=>h.get? a=some (BH C (some c) O))) E0
   ((hr.mono hk).make C B []) (J2.env0.make C B []) ?_ rv (ZY a n t0 rfl hn zI (λc d O h1 h2=>⟨rfl,c,d,O,by rwa [zH h2]at h1,h2,rfl⟩))) λr s' U=>?_)
  .have hh:=hb _ (.ref a::B) J2.kIn (by simp[o]);rw[aN]at hh;exact hh
  .cases r with
   |error y=>exact U.elim
   |ok fl=>
    cases fl with
    |ret u=>
     obtain⟨v3,H3,I3,r3,e3,c,d,O,j,aa,e4⟩:=J2.after U;subst e3;have Z:s'.heap.get? a=some (BH C (some c) O):=(I3.hok a (.ext λh=>h.get? a=some (BH C (some c) O)) (by rw[e4];exact zI)).1;have I4:=I3.untrack (e:=a) (by rw[e4];exact zI)
     have eH:Wr H3 a=yQ i c (.frz d (.xd [(fld,.int n)])):=by
      funext b;rw[e4];by_cases m:b=a
      .rw[m,ML,zH (Ne.symm aa)];exact oa.h.symm
      .rw[BI m,zH m];by_cases J:b=c
       .rw[J,zI,zI]
       .rw[zH J,zH m,zH J]
     rw[eH]at I4;exact⟨r3,_,_,I3.kIn _ _ lC,Z,hx.born pins σ _ s' a C (some c) I4 (Y9 _ _ ⟨Z,rfl,rfl,rfl,rfl,rfl⟩) oa.s0 (by rw[zH (Ne.symm aa)];exact oa.h) (hE c d j)⟩
    |next=>exact False.elim U
    |brk=>exact False.elim U
    |cont=>exact False.elim U
 .unfold zEN at L;split at L
  .rename_i n;split at L
   .rename_i hn;exact⟨n,yV d1.1,hn,λc d j=>L ae _ (x1.trans (w1.newx j)) (w1.new j) C (some c) hm (.inr (Y3 c _ d rfl zI (.cons (yU n) .nil)))⟩
   .exact L.elim
  .exact L.elim
end
noncomputable def Jl(ns:C0)(a:Str):Er->Sto->R Er
 |.val (.loc l),S=>match S[l]? with
  |some (.ins c fs)=>if c∈ns then(match fs.lookup a with
   |some (.int n)=>.ok (.val (.int n)) S
   |_=>.no)else .no
  |_=>.no
 |_,_=>.no
theorem DenF.get{K:P0}: ∀{fs gs},DenF K α H fs gs->fs.lookup y=some d-> ∃v,gs.lookup y=some v/\Den K α H d v
 |_,_,.nil,h=>by simp at h
 |_,_,.cons (x:=x) a l,h=>by
  rw[ğ]at h ⊢
  cases q:y==x with
  |true=>rw[q]at h;cases h;exact Z8 _ rfl a
  |false=>rw[q]at h;exact DenF.get l h
section
variable{pos:Pos}
def Ot(T:XTab X.K X.mg M cs)(hf:fld∈qn)(hB:typeLookup ↑29 fld=pure none)(U:zR X W a f)(m:cs.map (·.1)=ns:=by rfl)
  (hbase:attributeBase a fld X.env (eval a X.env)=eval a X.env:=by rfl) (hgo: ∀o r,letTemporaryGo a o r=pure ():=by intro _ _;rfl):zR X W (.Attribute a fld pos) (λρ S=>(f ρ S).bind (Jl ns fld)):=by
 subst m;refine U.a λta U fa=>?_
 refine⟨λσ H Q=>ta σ H λv y=> ∃j k w G B n C,v=.ref j/\y j=some (.frz k (.ext λh=>h.get? j=some k))/\k.cls=.ref C/\k.dict=some w/\y w=some (.frz G (.xd B))/\B.lookup fld=some (.int n)/\(∃i,DL X.K C (.ref M::qC) i)/\(∀c,k.data≠.cls c)/\Q (.int n) y,
  λpins s σ H Q I h=>?_,λα ρ S σ H Q wd sl q=>fa α ρ S σ H _ wd sl (q.bind λu r S1 ai y e1 x1 w1 d1 b=>?_)⟩
 .rw[arm_eval_Attribute,hbase];refine wB (wU (U pins s σ H _ I h) λu s1 ⟨v,y,I1,r1,j,k,w,G,B,n,C,e1,L,P,p,Y,Z,⟨i,cC⟩,J,q⟩=>?_);subst e1;cases r1;refine wB (đ (wB (ö ?_)));have hx:=(I1.hok j _ L).1;obtain⟨_,mA,m,A⟩:=I1.hok w _ Y;have e:=A fld;rw[Z]at e
  cases E:mA fld with
  |none=>rw[E]at e;exact e.elim
  |some u=>
   rw[E]at e;obtain⟨tk,rfl⟩:=e;have O:=uY I1.kIn cC T.mc;obtain⟨nm,q',N,bs,ak,sn,ah,ab,ao,dd,k0,k1,k2,k3,k5,lC,_,_,_,rfl⟩:=cC;have hC:=I1.kIn _ _ lC;obtain⟨hp,g,d,aj,os⟩:=s1;refine RH O hC hx P p J m E hf hB rfl ?_;rw[hgo];exact wB (wP (wP (Z3 (.int n) y (I1.tok _) ⟨tk,rfl⟩ q)))
 .replace b:=b.shift x1
  unfold Jl at b;split at b
  .rename_i l;split at b
   .rename_i c fs hl;split at b
    .rename_i P;split at b
     .rename_i n F;refine(aG d1.1).a λj R ae=>?_;subst R;obtain⟨C,B,E,D,k,L,ag,p⟩:=w1.obj l j _ ae hl;refine(mM0.mp P).a λV af ac=>?_;obtain ⟨c',C'⟩:=V;subst ac;obtain⟨z1,z2⟩:=T.each.at af;have:C=C':=by have z:X.mg c'=some _:=E;rw[z1]at z;cases z;rfl
      subst this;rcases p with rfl|⟨w,G,h1,h2,vs,h3⟩
      .simp at F
      .refine(D.get F).a λv hv hd=>?_;rw[xI hd]at hv;exact Yc j k w G B n C ⟨rfl,L,ag,h1,h2,hv,z2,(λc z=>by rw[h3]at z;cases z),Post.val b w1 (yU n)⟩
     .exact b.elim
    .exact b.elim
   .exact b.elim
  .exact b.elim
end
def xin_mk{K:P0}
  (l:K.lookup C=some (excClassObj nm q C N bs (.ref M::qC) true sn sub ab col dd k0 k1 k2 k3 k5 "ValueError.__new__")) (n:K.lookup N=some ⟨oc,od,.dict es ep,sl⟩) (o:(es.toList.all λe=>match e.key with |.str _ _=>true|_=>false)=true)
  (i:PySem.W.nsIn K N "__init__"=some (some (.ref f))) (q1:PySem.W.nsIn K N "__class__"=some none) (q2:PySem.W.nsIn K N "__getattribute__"=some none) (q3:PySem.W.nsIn K N "__getattr__"=some none)
  (q4:PySem.W.nsIn K N "__setattr__"=some none) (q5:PySem.W.nsIn K N "place"=some none) (q6:PySem.W.nsIn K N "ring"=some none) (lf:K.lookup f=some fo) (cf:fo.cls=.type "function"):XIn K M C f:=by
 refine⟨(X5 nm q N bs sn sub ab col dd k0 k1 k2 k3 k5 ⟨l,?_,i,(λy a=>?_)⟩),fo,lf,cf⟩
 .unfold PySem.W.nsOkIn;rw[n];rw[Array.all_toList]at o;exact o
 .simp only[qn,mC,nM,or_false]at a;rcases a with rfl|rfl|rfl|rfl|rfl|rfl<;>assumption
structure DefM(K:P0)(mg:K0)(x:Str)(st:Stmt):Prop where
 ex: ∃f fd,mg x=some (.ref f)/\Fun K x x st f fd
def def_mk{K:P0}{st:Stmt}{kV:Ł}(a:PySem.W.nsIn K mainGlobals x=some (some (.ref g)))
  (l:K.lookup g=some ⟨oc,od,.func (PySem.W.fnOf x x (pG st) (wK st) (zE st) .none kV dc pm an cd ct),sl⟩) (c:PySem.W.codeIn K cd x=true) (k:PySem.W.keepIn K (.ref g)=true) (X:K.In h) (GG:h.Ns mainGlobals mg):DefM K mg x st:=⟨_,_,PySem.W.mg_of X GG a,As l c k⟩
structure Cal(P:ł)(w:World)(K:P0)(mg:K0)(base:Heap)(CX:Hw)(x:Str)(k:Nat)(ps:C0)(sp:Sp):Prop where
 ex: ∃fa fd,FnOk P w K mg base CX k fa fd ps sp/\mg x=some (.ref fa)/\PySem.W.keepIn K (.ref fa)=true/\Binds K fd ps []
abbrev Ou(P:Program)(w:World)(K:P0)(mg:K0)(base:Heap)(x:Str)(k n:Nat)(ps:C0)(F:↑25):Prop:=Cal P w K mg base EY x k ps (Ag ⟨K,mg,P,w⟩ n F)
abbrev Ov(P:Program)(w:World)(K:P0)(mg:K0)(base:Heap)(x:Str)(k n:Nat)(ps:C0)(F:↑25):Prop:=Cal P w K mg base (Ik P w) x k ps (Ld ⟨K,mg,P,w⟩ n F)
section
variable{K:P0}{st:Stmt}
abbrev UJ(x:Str)(st:Stmt)(ps:C0):Prop:= ∀(kV b d:Value)(e:Option Addr)(c ct:Value)(a:A0),a.length=ps.length->bindArgs (PySem.W.fnOf x x (pG st) (wK st) (zE st) .none kV b d e c ct) ⟨a,[]⟩=pure (ps.zip a)
def zAJ(D:DefM K mg x st)(b:UJ x st ps)(h: ∀f d,Fun K x x st f d->FnOk P w K mg base EY k f d ps (Ag ⟨K,mg,P,w⟩ n F)):Ou P w K mg base x k n ps F:=
 let ⟨f,d,m,a⟩:=D.ex;⟨f,d,h f d a,m,a.kp,a.binds b⟩
def Ow(D:DefM K mg x st)(b:UJ x st ps)(h: ∀f d,Fun K x x st f d->FnOk P w K mg base (Ik P w) k f d ps (Ld ⟨K,mg,P,w⟩ n F)):Ov P w K mg base x k n ps F:=
 let ⟨f,d,m,a⟩:=D.ex;⟨f,d,h f d a,m,a.kp,a.binds b⟩
def Cal.noX(G:Ov P w K mg base x k n ps F):Ou P w K mg base x k n ps F:=let ⟨d,a,G,m,c,b⟩:=G.ex;⟨d,a,G.noX,m,c,b⟩
def V2{l:PySem.W.OpenLaw}(D:DefM K mg x st)(a:mg x=some (.ref fa))(c: ∀ kV u B  z  q ct  s  v ,BindsTo s (PySem.W.fnOf x x (pG st) (wK st) (zE st) .none kV u B z q ct) ⟨[v],[]⟩ [(p,v)])
  (h: ∀base f d,Fun K x x st f d->FnOk l.prog w K mg base EY k f d [p] (Ag ⟨K,mg,l.prog,w⟩ 1 F)):
  ∃d:FuncData,(∀ s  v ,BindsTo s d ⟨[v],[]⟩ [(p,v)])/\ ∀base:Heap,K.In base->base.Ns mainGlobals mg->FnOk l.prog w K mg base EY k fa d [p] (QY K F):=by
 refine D.ex.d λf d m b=>?_;rw[a]at m;cases m;refine Z8 d ?_ (λbase _ _=>(h base fa d b).imp λe H Q E=>Nt (g:=⟨K,mg,_,w⟩) e H Q E);refine b.ex.r λ_ _ _ _ _ _ _ _ _ i=>i.e λj _ _=>?_;subst j;exact c _ _ _ _ _ _
end
section
variable{p pos:Pos}
def zV(G:Ou X.prog X.w X.K X.mg X.base x k n ps F)(d:Room k X.A)(s:Gl X x)(c:IM X W (e::es) af)(a:↑35=false:=by decide)
  (he:q8 X e es:=by rfl) (hpl:q9 X pos es:=by rfl):zR X W ↑38 (λρ S=>(af ρ S).bind λrs S1=>zQ n F rs S1):=
 let ⟨_,_,G,m,j,b⟩:=G.ex;(by
   refine c.a λt c u=>?_;refine Z8 _ (Dm G d s m j b .nil zBU c a he hpl) (λα ρ S σ H Q r sl q=>u α ρ S σ H _ r sl (q.bind λz rs S1 o C B v h i y=>?_));rw[aN];exact QS v h i y)
def tX(s:XOk X E)(G:Ov X.prog X.w X.K X.mg X.base x k n ps F)(d:Room k X.A)(u:Gl X x)(c:IM X (WE X.g E) (e::es) af)(a:↑35=false:=by decide)
  (he:q8 X e es:=by rfl) (hpl:q9 X pos es:=by rfl):zR X (WE X.g E) ↑38 (λρ S=>(af ρ S).bind λrs S1=>xW n F rs S1):=
 let ⟨_,_,G,m,j,b⟩:=G.ex;(by
   refine c.a λt c v=>?_;refine Z8 _ (Dm G d u m j b .nil s.pass c a he hpl) (λα ρ S σ H Q r sl q=>v α ρ S σ H _ r sl (q.bind λB rs S1 o D C y h i z=>?_));rw[aN];exact MB y h i z)
end
end M
end L2
namespace L2
open PySem PySem.Spec PyProof.Rows
structure RoomH(k:Nat)(A:Around):Prop where
 dp:A.depth+3 * k+5<recursionLimit
 un:A.units+16 * k+200<cLine
theorem RoomH.mono(r:RoomH k A)(h:j<=k):RoomH j A:=⟨by have:=r.dp;lia,by have:=r.un;lia⟩
theorem RoomH.deeper(r:RoomH (k+1) A)(env):RoomH k (A.deeper env):=
 ⟨by have:=r.dp;show A.depth+1+3 * k+5<_;lia,by have:=r.un;show A.units+3+16 * k+200<_;lia⟩
def RoomH.depth(r:RoomH k A):A.depth<recursionLimit:=by have:=r.dp;omega
def RoomH.units(r:RoomH k A):A.units+64<cLine:=by have:=r.un;omega
def Room.inH(r:Room k A)(v:Hv):RoomH k (A.mark (some (.ref v.e))):=⟨r.dp,r.un⟩
structure FnOkH(P:ł)(w:World)(K:P0)(mg:K0)(base:Heap)(k:Nat)(f:Addr)(fd:FuncData)(ps:C0)(sp:Sp):Prop where
 len: ∀vs H Q E,sp vs H Q E->↑47=ps.length
 run: ∀(A:Around)(outer:List Env)(s:ŀ)(H:Hp)(args:Args)(us:A0)(vs:List V)(Q:VK)(E:XK),RoomH k A->HdA A H->Env0 P w K mg base A outer s H->BindsTo s fd args (ps.zip us)->Vals vs us->sp vs H Q E->
  codeAny (model P w) A (.call (.ref f) args) (CR EY outer P w H s Q E) s
def zCW(P:ł)(w:World)(K:P0)(mg:K0)(base:Heap)(N:C0)(b:Str)(a:Scope)(f:Addr)(c:Ł)(A:Around)(outer:List Env)(s:ŀ)(H:Hp):Cx:={JF EY P w K mg base N b a f c A outer s H E0 with calm:=false,xe:=λ_ _=>False}
section
variable{K:P0}{s1:ŀ}
def zCX(a:A.frames=some outer)(I:Inv (JF EY P w K mg base N qual scope f cdv {A with handled:=none} outer s H E0) [] σ H s1):Inv (zCW P w K mg base N qual scope f cdv A outer s H) [] σ H s1:=
 ⟨⟨I.ok.mod,I.ok.kind,I.ok.glob,I.ok.blt,I.ok.above,I.ok.inj,I.ok.has,I.ok.cab,λz=>(by cases z),Around.frames_deeper a,I.ok.stk,I.ok.exf,I.ok.bs,I.ok.bsz,I.ok.noex,I.ok.exfs,I.ok.funs,I.ok.frf⟩,I.os,I.bare,I.base,I.loc,I.cell,I.free,I.freeC,I.pin,I.hok,I.len⟩
def V3{st:Stmt}(Fu:Fun K x qual st f fd)(S:FnScope N ps (zE st))(len: ∀vs H Q E,sp vs H Q E->↑47=ps.length)
  (hbody: ∀ d  A  outer  s  H  vs  Q  E ,RoomH k (A.deeper (envOfC qual (zE st) ↑3 f d))->HdA A H->sp vs H Q E->
   ∃t,PSs (zCW P w K mg base N qual (zE st) f d A outer s H) (wK st) t/\t {nx:=λ_ H'=>Q .non H',rt:=Q} (start N vs) H):FnOkH P w K mg base (k+1) f fd ps sp:=by
 refine Fu.ex.r λoc od kV X pm an d ct ab g=>g.e λac lk z=>?_;subst ac;refine⟨len,λA outer s H D O vs Q E C hh a L r j=>?_⟩;have Y:=len _ _ _ _ j;have KX:K.In s.heap:=a.mod.kin.keeps λb o e=>(a.bs b o e).1;have p:s.heap.NoLimit:=a.mod.nolimit.keeps λb o e=>(a.bs b o e).1
 have h: ∀y∈ps.zip O,(zE st).names.lookup y.1=some .local\/((zE st).names.lookup y.1=some .cell/\((cellsFrom (↑3+1) (zE st).names []).lookup y.1).isSome=true):=λ⟨n,v⟩ M=>by
  rcases S.par n (of_mem_zip M).1 with q|q
  .exact .inl q
  .exact .inr ⟨q,PySem.W.cellsFrom_some _ _ _ (.inl q)⟩
 refine codeAny_call_function C.depth (KX _ _ lk) rfl S.co S.gen rfl (PySem.W.codeRec_of KX z) (L _ _ _ _ ?_);refine wpAny_newFunctionEnv_cells S.kind h λaa F s1 x=>?_;subst F;refine⟨p.keeps x.toInCall.keep,codeAny_func ?_⟩;refine(hbody d A outer s H vs Q E (C.deeper _) hh j).a λt Z G=>?_;have U:Env0 P w K mg base {A with handled:=none} outer s H:=⟨a.frames,a.mod,a.bs,a.bsz,a.funs,a.frf,a.hok,a.bare⟩
 have I:=zCX a.frames (QD S rfl U Y r x);refine ò (Z [] s1 _ H _ I G) (λT B hs=>?_) λe B hs=>hs.elim
 have i: ∀{c:St}{H':Hp}{v:V}{u:Ł},Inv (zCW P w K mg base N qual (zE st) f d A outer s H) [] c H' B->RelV v u->Q v H'->CE outer P w H s Q u B:=
  λ{c H' v u} J m q=>(Y9 v H' ⟨J.os,J.bare,J.base,J.hok,m,q⟩)
 cases T with
 |ret u=>
  refine hs.l λv c H' R=>R.e λJ m q=>?_;exact i J m q
 |next=>
  refine hs.d λc H' J q=>?_;exact i (v:=V.non) J rfl q
 |brk=>
  refine hs.d λ_ _ _ q=>?_;exact False.elim q
 |cont=>
  refine hs.d λ_ _ _ q=>?_;exact False.elim q
end
namespace M
section
variable{P:ł}{w:World}{K:P0}{mg:K0}{base:Heap}{x:Str}{st:Stmt}{ps:C0}{k n:Nat}{F:↑25}
structure CalH(P:ł)(w:World)(K:P0)(mg:K0)(base:Heap)(x:Str)(k n:Nat)(ps:C0)(F:List MV->Sto->R Er):Prop where
 ex: ∃fa fd,FnOkH P w K mg base k fa fd ps (Ag ⟨K,mg,P,w⟩ n F)/\mg x=some (.ref fa)/\PySem.W.keepIn K (.ref fa)=true/\Binds K fd ps []
def okH(Fb)(u:Fun K x x st f fd)(j:FnScope N ps (zE st))
  (hbody: ∀ d  A  outer  s  H ,RoomH k (A.deeper (envOfC x (zE st) ↑3 f d))->Wh (zCW P w K mg base N x (zE st) f d A outer s H)->uP (zCW P w K mg base N x (zE st) f d A outer s H) W0 (wK st) Fb):
  FnOkH P w K mg base (k+1) f fd ps (Ag ⟨K,mg,P,w⟩ ps.length λds S=>yE (Fb (yA N ds) S)):=by
 refine V3 u j (λm H Q E h=>?_) (λd A outer s H m Q E i n h=>?_)
 .refine h.n λα S ds _ l e _=>?_;rw[l.length,e]
 .refine h.n λα S ds o l e q=>?_;refine(hbody d A outer s H i n).a λt B y=>?_;refine Z8 t B (y α _ S _ H _ o (BA l) ?_);dsimp only at q
  cases z:Fb _ S with
  |ok fl S'=>
   rw[z]at q
   cases fl with
   |next ρ=>exact λσ α' H' a b C=>q .non α' H' a b (DenE.val pH)
   |ret r=>exact λv α' H' a b p=>q v α' H' a b p
   |brk ρ=>exact q.elim
   |cont ρ=>exact q.elim
  |exc c fs S'=>rw[z]at q;exact λα' H' a b=>(q α' H' a b).elim
  |no=>rw[z]at q;exact q
def okCH(D:DefM K mg x st)(b:UJ x st ps)(h: ∀f d,Fun K x x st f d->FnOkH P w K mg base k f d ps (Ag ⟨K,mg,P,w⟩ n F)):CalH P w K mg base x k n ps F:=
 let ⟨f,d,m,a⟩:=D.ex;⟨f,d,h f d a,m,a.kp,a.binds b⟩
end
section
variable{p pos:Pos}
def Jm(G:CalH X.prog X.w X.K X.mg X.base x k n ps F)(z:RoomH k X.A)(E:Gl X x)(o:IM X W (e::es) af)(M:Wh X:=by exact zCN)(j:↑35=false:=by decide)
  (he:q8 X e es:=by rfl) (hpl:q9 X pos es:=by rfl):zR X W ↑38 (λρ S=>(af ρ S).bind λrs S1=>zQ n F rs S1):=by
 refine G.ex.g λfa U G m L b=>?_;refine o.a λt o O=>?_;refine Z8 (λσ H Q=>t σ H λc i=>Ag X.g n F c i Q E0) (λpins s σ H Q I h=>?_) (λα ρ S σ H Q N sl q=>O α ρ S σ H _ N sl (q.bind λc rs S1 D i Y T B C J=>QS T B C J));refine ķ (pE I E m ?_ j);refine PySem.W.callWith_K I.ok.mod.kin L (wU (o pos pins s σ H _ I h) λd s1 ⟨c,i,I1,r,q⟩=>⟨I1.kIn,?_⟩) he hpl;have P:d.length=ps.length:=by rw[<-r.length];exact G.len _ _ _ _ q
 have v:=b s1 d I1.kIn (by rw[aN];exact P);rw[aN]at v;refine wpAny_call (Ė (G.run X.A X.stack s1 i ⟨d,[]⟩ d c Q E0 z (M.now I1) I1.env0 v r q) λr Z a=>?_)
 cases r with
 |error y=>exact a.elim
 |ok fl=>
  cases fl with
  |ret u=>exact I1.after a
  |next=>exact False.elim a
  |brk=>exact False.elim a
  |cont=>exact False.elim a
end
noncomputable def By:List Er->Sto->R Er
 |[.val (.int i),.val (.int j)],S=>.ok (.val (.int (if j<i then j else i))) S
 |_,_=>.no
section
def V4:qH X W (λxs H Q=> ∃i j,xs=[.int i,.int j]/\Q (.int (if j<i then j else i)) H) By:=by
 intro k h α S H Q b d a;unfold By at a;split at a
 .refine(Zy d).b λv u g e c=>?_;subst g;cases yV e;cases yV c;exact Z0 _ _ rfl (Post.val a b (yU _))
 .exact a.elim
end
def V5:bootBuiltins "min"=some (.builtin "min"):=by decide+kernel
noncomputable def zCY(kvs:X0)(S:Sto):R Er:=.ok (.val (.loc ↑0)) (S++[.dic kvs])
section
variable{X:Cx}{o e:Expr}{es:O0}
noncomputable def tY(a:List (Key×V))(k:Key):Option V:=(a.find? λp=>decide (p.1=k)).map (·.2)
theorem Ey: ∀{d}{vs}(r:KV d vs) k ,(∀v,tY d k=some v-> ∃u,valueAt vs k=some u/\RelV v u)/\(tY d k=none->valueAt vs k=none)
 |_,_,.nil,k=>⟨λv h=>(nomatch h),λ_=>rfl⟩
 |(a,x)::d,(b,u)::vs,.cons ⟨h1,h2⟩ l,k=>by
  cases h1;unfold tY valueAt;by_cases c:a=k
  .simp only[find?_cons,c];exact⟨λv h=>⟨u,rfl,by cases h;exact h2⟩,λh=>nomatch h⟩
  .simp only[find?_cons,c];exact(Ey l k)
theorem RI: ∀{kvs}{m}{k}{k'},DenK X.K α H kvs m->KeyD k k'->(∀d,look kvs k=some d-> ∃v,tY m k'=some v/\Den X.K α H d v)/\(look kvs k=none->tY m k'=none)
 |_,_,_,_,.nil,_=>⟨λd h=>(nomatch h),λ_=>rfl⟩
 |_,_,k,k',.cons (k:=k0) (k':=k0') (v:=v0) h1 h2 l,hk=>by
  rw[QZ];unfold tY;by_cases c:k0=k
  .subst c;have:=UH h1 hk;simp only[find?_cons,this];exact⟨λd h=>⟨v0,rfl,by cases h;exact h2⟩,λh=>nomatch h⟩
  .have a: ¬k0'=k':=λz=>c (MF h1 (z▸hk));simp only[find?_cons,a,iN0 c];exact(RI l hk)
def TyK(X:Cx)(x:V)(H:Hp):Prop:= ∃d a,x=.ref d/\DK X H d a
def Ox:FR X "dict" (TyK X):=by intro pins s σ H x v I i ⟨d,m,e,h⟩;subst e;cases i;obtain⟨_,hs,j,k,o,es,n,b,c,_⟩:=lW I h;exact⟨⟨o,b,c.1⟩,λa e=>by cases e;exact⟨o,b,c.2.1⟩⟩
end
section
def vJ(i:Nat)(ρ:Rho)(S:Sto):R Er:=Uz (ρ[i]?) S
noncomputable def kJ(d:MV)(_:Rho)(S:Sto):R Er:=.ok (.val d) S
noncomputable def bJ(f:Rho->Sto->R α)(F:α->Sto->R β)(ρ:Rho)(S:Sto):R β:=(f ρ S).bind F
noncomputable def dJ(F:Er->Er->Sto->R Er)(f g:AX)(ρ:Rho)(S:Sto):R Er:=(f ρ S).bind λp S=>(g ρ S).bind λq S=>F p q S
def nJ(f:AX)(ρ:Rho)(S:Sto):R Er:=(f ρ S).bind λp S=>(bN p S).bind λk S=>.ok (.val (.bl !k)) S
def aJ(f g:AX)(ρ:Rho)(S:Sto):R Er:=(f ρ S).bind λp S=>O5 p S λS=>g ρ S
def oJ(f g:AX)(ρ:Rho)(S:Sto):R Er:=(f ρ S).bind λp S=>orF p S λS=>g ρ S
noncomputable def iJ(c:AZ)(f g:Rho->Sto->R α)(ρ:Rho)(S:Sto):R α:=(c ρ S).bind λk S=>if k=true then f ρ S else g ρ S
noncomputable def mJ(_:Rho)(S:Sto):R (Option Int):=.ok none S
noncomputable def tJ(F:Er->Option Int->Option Int->Sto->R Er)(f:AX)(g h:Rho->Sto->R (Option Int))(ρ:Rho)(S:Sto):R Er:=(f ρ S).bind λp S=>(g ρ S).bind λl S=>(h ρ S).bind λu S=>F p l u S
def lJ(k:X0)(_:Rho)(S:Sto):R Er:=zCY k S
def zJ(_:Rho)(S:Sto):R Er:=Ei S
def fJ(n:Nat)(F:↑25)(a:↑43)(ρ:Rho)(S:Sto):R Er:=(a ρ S).bind λr S=>zQ n F r S
def xJ(n:Nat)(F:↑25)(a:↑43)(ρ:Rho)(S:Sto):R Er:=(a ρ S).bind λr S=>xW n F r S
def hJ(F:↑25)(_:Rho)(S:Sto):R Er:=zQ 0 F [] S
noncomputable def eJ(t:Er->Sto->Bool)(F:Er->List Er->Sto->R Er)(f:AX)(a:↑43)(ρ:Rho)(S:Sto):R Er:=(f ρ S).bind λp S=>if t p S=true then(a ρ S).bind λr S=>F p r S else .no
noncomputable def gJ(t:Er->Sto->Bool)(F:Er->List Er->Sto->R Er)(f:AX)(ρ:Rho)(S:Sto):R Er:=(f ρ S).bind λp S=>if t p S=true then F p [] S else .no
noncomputable def uJ(_:Rho)(S:Sto):R Bool:=.ok true S
def pJ(i:Rho->Sto->R Wk)(g:↑24)(c:AZ)(e:AX)(n:Nat)(I:Db)(ρ:Rho)(S:Sto):R Er:=(i ρ S).bind λk S=>if k.ds.length<1000000 then(yG g c e (AM n I ρ) k.gs k.ds S).bind λo S=>.ok (.new o) S else .no
def jJ(F G:Er->Er->Sto->R Er)(f g h:AX)(ρ:Rho)(S:Sto):R Er:=(f ρ S).bind λp S=>(g ρ S).bind λq S=>zAH F G p q S λS=>h ρ S
noncomputable def qJ(f:AZ)(ρ:Rho)(S:Sto):R Bool:=(f ρ S).bind λk S=>.ok (!k) S
noncomputable def rJ(f g:AZ)(ρ:Rho)(S:Sto):R Bool:=(f ρ S).bind λk S=>if k=true then g ρ S else .ok false S
noncomputable def sJ(f g:AZ)(ρ:Rho)(S:Sto):R Bool:=(f ρ S).bind λk S=>if k=true then .ok true S else g ρ S
noncomputable def wJ(_:Rho)(S:Sto):R (List Er):=.ok [] S
noncomputable def yJ(f:AX)(g:↑43)(ρ:Rho)(S:Sto):R (List Er):=(f ρ S).bind λp S=>(g ρ S).bind λl S=>.ok (p::l) S
noncomputable def AJ(f:AX)(ρ:Rho)(S:Sto):R Fl:=(f ρ S).bind λr S=>.ok (.ret r) S
noncomputable def BJ(f:AX)(ρ:Rho)(S:Sto):R Fl:=(f ρ S).bind λ_ S=>.ok (.next ρ) S
def CJ(f:AX)(i:Nat)(ρ:Rho)(S:Sto):R Fl:=(f ρ S).bind (JH ρ i)
noncomputable def DJ(F:Er->Er->MV->Rho->Sto->R Rho)(f g:AX)(d:MV)(ρ:Rho)(S:Sto):R Rho:=(f ρ S).bind λp S=>(g ρ S).bind λq S=>F p q d ρ S
def EJ(f:AX)(g:↑24)(ρ:Rho)(S:Sto):R Fl:=(f ρ S).bind (Vb g ρ)
def FJ(i:Rho->Sto->R Wk)(g:↑24)(b:AY)(ρ:Rho)(S:Sto):R Fl:=(i ρ S).bind λk S=>jK g b k.gs k.ds ρ S
noncomputable def GJ(a:↑43)(c:Str)(ρ:Rho)(S:Sto):R Fl:=(a ρ S).bind λr S=>if r.length<=10 then .exc c [] S else .no
def HJ(b:C0)(i:Nat)(h:AY)(n:Nat)(F:↑25)(a:↑43)(ρ:Rho)(S:Sto):R Fl:=(noX (a ρ S)).bind λr S=>OS b i (λ_ S=>.ok (.next ρ) S) h ρ (xW n F r S)
def IJ(b:C0)(i j:Nat)(h:AY)(n:Nat)(F:↑25)(a:↑43)(ρ:Rho)(S:Sto):R Fl:=(noX (a ρ S)).bind λr S=>OS b i (JH ρ j) h ρ (xW n F r S)
noncomputable def JJ(ρ:Rho)(S:Sto):R Fl:=.ok (.next ρ) S
end
noncomputable def Itv(K:P0)(l:Addr)(n:Nat):It:=
 ⟨λi H=> ∃xs x,SqL K H l xs/\↑8=n/\xs.reverse[i]? =some x,
   λi H v H'=>H'=H/\ ∀xs,SqL K H l xs->xs.reverse[i]? =some v,
   λi _=>n<=i⟩
def Oy{K:P0}(l it)(n):Turn P w K tg (Itv K l n) [it] it (λi h=>h.IsRevIter it l (((n - i:Nat)) - 1)) where
 mem:=by simp
 obj:=λi h st b hb=>by
  have e:b=it:=by simpa using hb
  subst e;refine st.c λo e c d=>?_;exact Z8 o e (λv z=>by rw[d]at z;cases z)
 keep:=λi h h' st k=>st.at λo e=>k it (by simp) o e
 item:=by
  intro X hP hw hK hc i pins s σ H E I hf st hg;subst hP hw hK;refine hg.b λxs x hq hn hx=>?_;refine(I.list hq).c λits rv p hz=>?_;have hi:i<xs.length:=by have:=(gS.mp hx).1;rw[ě]at this;exact this
  have hx':=hx;rw[List.getElem?_reverse hi]at hx';refine(rv.get hx').a λu hu ru=>?_;refine(hf it (by simp)).f λf0 f1 f2 f3 f4 f5=>?_;have e1:(((n - i:Nat):Int) - 1)=((↑8 - 1 - i:Nat):Int):=by omega
  have st':s.heap.IsRevIter it l (((n - i:Nat):Int) - 1):=st;rw[e1]at st';refine wpAny_pyNext_rev_item st' p.isList (x:=u) (by simpa using hu) λh' st2 sb=>?_;have I1:Inv X pins σ H {s with heap:=h'}:=I.turned (t':=s.toks) (λb o hb e=>(sb.2 b hb).trans e) f0 f1 f3 f4 f5;refine(id st2).c λo e c d=>?_;have e2:((↑8 - 1 - i:Nat):Int) - 1=(((n - (i+1):Nat):Int) - 1):=by omega
  refine Z8 u rfl (PP (s:={s with heap:=h'}) e c d ↑4 (YD x H I1 ru ⟨rfl,λys hy=>by rw[I.list_inj hy hq];exact hx⟩ ?_ (λb hb=>(hf b hb).1)));dsimp only;rw[<-e2];exact st2
 done:=by
  intro X hP hw hK hc i pins s σ H E I hf st hg;subst hP hw hK;have hg:n<=i:=hg;refine(hf it (by simp)).f λf0 f1 f2 f3 f4 f5=>?_;have e1:(((n - i:Nat):Int) - 1)= -1:=by omega
  have st:s.heap.IsRevIter it l (((n - i:Nat):Int) - 1):=st;rw[e1]at st;exact wpAny_pyNext_rev_end (I.ok.hd hc) st λh' eb=>⟨rfl,I.turned (t':=s.toks) (λb o hb e=>eb b o hb e) f0 f1 f3 f4 f5⟩
 self:=λ_ _ _ _ _ st h=>wpAny_pyIter_revIter st h
section
variable{a e:Expr}{p:Pos}
def iRev(K:P0)(b:TA):TI:=λσ H R=>b σ H λc a=> ∃l xs,c=[.ref l]/\SqL K a l xs/\R (Itv K l ↑8) a
def V6(m:Gl X "reversed")(u:X.mg "reversed"=none)(w:PA X [a] ta)(hs:starEach [a] X.env=[(false,eval a X.env)]:=by rfl):
  PI X tg (.Call (.Name "reversed" p) [a] [] pos) (iRev X.K ta):=by
 intro pins s σ H R I h;refine Call_ (EH I m u (show bootBuiltins "reversed"=some (.type "reversed") by decide+kernel) (Ď (wU (w pos pins s σ H _ I h) λA s1 ⟨z,y,I1,k,v⟩=>?_) (by rw[hs];rfl) (by rfl)));refine v.b λl xs g d q=>?_;subst g
 cases k with
 |cons r rr=>
  cases rr;cases r;refine(I1.list d).c λc n p1 _=>?_;refine call_reversed_list p1.isList (wpAny_pyIter_revIter (i:=(c.toArray.size:Int) - 1) (l:=l) ⟨_,ä _ rfl,rfl,rfl⟩ ?_);refine Yt ↑39 ([↑39]) _ _ y rfl (I1.kept (t':=s1.toks) λb o e=>hP0 _ e) (Oy l _ ↑8) ⟨_,ä _ rfl,rfl,?_⟩ (λb j=>?_) q
  .have:((↑8 - 0:Nat):Int) - 1=(c.toArray.size:Int) - 1:=by rw[n.length];simp
   rw[this];rfl
  .have e:b=s1.heap.objs.size:=by simpa using j
   subst e;exact I1.fpOk (à _) (I1.hok.fresh (à _))
def zCZ(rs:List Er)(S:Sto):R Wk:=match rs with
 |[p]=>match srcOf S p with
  |some a=>if a.k=true then .ok ⟨a.ds.reverse,a.gs⟩ S else .no
  |none=>.no
 |_=>.no
def V7(M:Gl X "reversed")(hm:X.mg "reversed"=none)(s:IM X W [a] af)(hs:starEach [a] X.env=[(false,eval a X.env)]:=by rfl):
  WI X W tg (.Call (.Name "reversed" p) [a] [] pos) (λρ S=>(af ρ S).bind zCZ):=by
 refine s.a λt s k=>?_;refine Z8 _ (V6 M hm s hs) (λα ρ S σ H Rc Y sl q=>k α ρ S σ H _ Y sl (q.bind λc rs U o H1 e x1 y E b=>?_))
 replace b:=b.shift x1
 unfold zCZ at b;split at b
 .rename_i r1;split at b
  .rename_i s1 Q;split at b
   .rename_i hk;refine(QQ E).a λu g O=>?_;subst g;refine(Bk y Q O).b λr A R p1 v=>?_;subst R;have C: ∀α S H,A α S H-> ∃c,SqL X.K H r c/\DenL X.K α H s1.ds c:=λα S H h=>by have:=v.get _ _ _ h;rw[hk]at this;exact this
    refine(C _ _ _ p1).a λc I Z=>?_;have hl:=Z.length;refine Z3 r c rfl I (b.here (u:=Itv X.K r c.length) y ⟨λα S H=>A α S H,?_,p1,?_,?_⟩)
    .intro i n P D j T;refine(C _ _ _ j).a λm B z=>?_;have J:=z.length;refine⟨λhi=>?_,λhi=>?_⟩
     .have hi:i<s1.ds.reverse.length:=hi;rw[ě]at hi;have F:i<m.reverse.length:=by rw[ě];omega
      refine⟨(Z3 m (m.reverse[i]) B (by omega) (gE F)),?_⟩;rintro x H' ⟨rfl,G⟩;refine(z.reverse.get (G m B)).a λd N L=>?_;exact⟨Ext.refl _ _,T,j,d,N,L⟩
     .have hi:s1.ds.reverse.length<=i:=hi;rw[ě]at hi;show c.length<=i;omega
    .intro o U H1 n P D j x w hs;exact v.stays _ _ _ _ _ _ j x w hs
    .exact v.st _ _ _ p1
   .exact b.elim
  .exact b.elim
 .exact b.elim
def augF(F:Er->Er->Sto->R Er)(i:Nat)(f:AX)(ρ:Rho)(S:Sto):R Fl:=(Uz (ρ[i]?) S).bind λp a=>(f ρ a).bind λq b=>(F p q b).bind (JH ρ i)
noncomputable def intsOf:List MV->Option (List Int)
 |[]=>some []
 |.int i::ds=>(intsOf ds).map (i::·)
 |_::_=>none
def MN:bootBuiltins "sorted"=some (.builtin "sorted"):=by decide+kernel
end
section
variable{x:Str}
def TB(X:Cx)(W:XW)(ns:C0)(i:Nat)(d:AY)(hs:List ExceptHandler)(st:Stmt)(h:AX):Prop:=
 ∀α c S σ H D pins s,Wd X.g α S H->Slots X.K α H c σ->PostS X.g W α H D (OS ns i (λ_ j=>.ok (.next c) j) d c (h c S))->Inv X pins σ H s->
  wpAny ↑5 X.A (exec st X.env) (λf e=>f=Flow.next/\ ∃H',Inv X pins σ H' e/\D.nx σ H')
   (λx s1=>wpAny ↑5 X.A (noteFrame x X.env) (λ_ b=>wpAny ↑5 X.A (setFlight x none) (λ_ a=>wpAny ↑5 X.A (handleBy x X.env hs) (SP X pins D) X.xe a) X.xe b) X.xe s1) s
end
def KJ(n:Nat)(F:↑25)(a:↑43)(ρ:Rho)(S:Sto):R Er:=(noX (a ρ S)).bind λr S=>xW n F r S
def LJ(c:AZ)(f g:AX)(ρ:Rho)(S:Sto):R Er:=(noX (c ρ S)).bind λk S=>if k=true then f ρ S else g ρ S
def MJ(a:C0)(i:Nat)(h:AY)(f:AX)(ρ:Rho)(S:Sto):R Fl:=OS a i (λ_ S=>.ok (.next ρ) S) h ρ (f ρ S)
section
noncomputable def Jn(r:Addr)(j:Int):HO:=.ext λh=> ∃t u v,IsRange h r 0 j 1 t u v
def V8(n:Gl X "range")(p:X.mg "range"=none)(y:PA X [a] ta)(hs:starEach [a] X.env=[(false,eval a X.env)]:=by rfl):
  PE X (.Call (.Name "range" p3) [a] [] pos2) (λσ H Q=>ta σ H λvs d=> ∃j:Int,vs=[.int j]/\ ∀r,d r=none->Q (.ref r) (yQ d r (Jn r j))):=by
 intro pins s σ H Q I h;refine Call_ (EH I n p boot_range (Ď (wU (y pos2 pins s σ H _ I h) λB s1 ⟨vs,d,I1,k,w⟩=>?_) hs rfl));refine w.a λj g q=>?_;subst g;obtain⟨u,rfl,t,rfl⟩:=vals1 k;refine call_range_1 ?_;have c:=I1.hok.fresh (à _);refine Z3 (.ref ↑39) _ (I1.laid (o:=Jn ↑39 j) (λb o e=>hP0 _ e) (à _) ⟨(Yq _ _ _ (IsRange.new ..)),⟨_,ä _ rfl⟩,?_⟩) rfl (q _ c);rintro z A ⟨t,u,v,i⟩ m;exact Yq t u v (m _ i)
end
section
variable{pos pos2 p2 p3:Pos}
noncomputable abbrev Wu(j:Int):List Int:=(List.range j.toNat).map Int.ofNat
def Jo:CallR X (.type "list") (λxs H Q=> ∃r j,xs=[.ref r]/\H r=some (Jn r j)/\ -1000000<=j/\j<=1000000/\X.calm=true/\ ∀p,H p=none->Q (.ref p) (yQ H p (.lst ((Wu j).map V.int)))):=by
 intro pins s σ H xs J Q I r h;obtain⟨m,j,rfl,o,L,K,z,q⟩:=h;refine(vals1 r).a λ_ g G=>?_;subst g;cases G;obtain⟨⟨t,u,v,C⟩,_⟩:=(show ObjOk X.prog X.w H s.heap m (Jn m j)from I.hok m _ o)
 refine call_list_range (I.ok.hd z) C (small_one ↑4 ↑4 (by omega) (by omega)) (show Builtin.Range.rangeSize 0 j 1=j.toNat by rw[rangeSize_one];split<;>omega) (by omega) λh' B a A D F b=>?_;refine(Z3 (.ref ↑3) _ (I.laid (t':=B) D (à _) (show ObjOk X.prog X.w _ h' _ (.lst ((Wu j).map V.int))from⟨?_,a.toList,A,(by
   obtain⟨y,E⟩:=b;refine ?_
   have d: ∀(l:A0)(k:Nat),(∀i v,l[i]? =some v-> ∃t,v=Value.int ((k+i:Nat):Int) t)->Vals (((List.range' k l.length).map Int.ofNat).map V.int) l:=by
    intro l
    induction l with
    |nil=>intro k _;exact .nil
    |cons x l ih=>
     intro k n;obtain⟨t,rfl⟩:=n 0 x rfl;refine .cons ⟨t,rfl⟩ (ih _ λi v c=>?_);obtain⟨t',e⟩:=n (i+1) v c;exact⟨t',by rw[e,show k+_=k+1+i by lia]⟩
   have:=d a.toList 0 λi v c=>by
    obtain⟨t,e⟩:=E i v (by rw[<-û];exact c);refine⟨t,e.trans ?_⟩;congr 1
    lia
   rw[ü,y, <-range_eq_range']at this;exact this),?_⟩)) rfl (q _ (I.hok.fresh (à _))))
 .rw[lM0,lM0,ñ,ô];omega
 .rw[Array.toArray_toList];exact F
def YE(rs:List Er)(S:Sto):R Er:=match rs with
 |[.val (.int j)]=>if -1000000<=j/\j<=1000000 then .ok (.new ((Wu j).map MV.int)) S else .no
 |_=>.no
def Wv(z:X.calm=true)(w:Gl X "list")(D:X.mg "list"=none)(c:Gl X "range")(e:X.mg "range"=none)(d:IM X W [a] af)(hs:starEach [a] X.env=[(false,eval a X.env)]:=by rfl)
  (he1:starEach [.Call (.Name "range" p3) [a] [] pos2] X.env=(false,eval (.Call (.Name "range" p3) [a] [] pos2) X.env)::starEach [] X.env:=by rfl) (hpl1:(backTo pos (starEach [] X.env)).any (·.1)=false:=by rfl):
  zR X W (.Call (.Name "list" p2) [.Call (.Name "range" p3) [a] [] pos2] [] pos) (λρ S=>(af ρ S).bind YE):=by
 refine d.a λt d k=>?_;refine Z8 _ (CQ Jo w D rO (gU (V8 c e d hs) sP he1) ↑4 ↑4 he1 hpl1) (λα ρ S σ H Q A sl q=>k α ρ S σ H _ A sl (q.bind λF J I r K G E h n b=>?_))
 replace b:=b.shift E
 unfold YE at b;split at b
 .split at b
  .rename_i j m;refine(QQ n).a λu g y=>?_;subst g;cases yV y;refine⟨j,rfl,λv i=>?_⟩;have C:=h.newx (o:=Jn v j) i;have s:=h.new (o:=Jn v j) i;exact Y9 v j ⟨rfl,zI,m.1,m.2,z,(λp B=>(b.shift C).newl s B (GT _))⟩
  .exact b.elim
 .exact b.elim
end
end M
end L2
namespace L2
open PySem PySem.Spec PyProof.Rows
namespace M
structure OC(K:P0)(c:Str)(C:Addr):Prop where
 ns:PySem.W.nsIn K mainGlobals c=some (some (.ref C))
 nm:(PySem.W.clsIn K C).map (·.name)=some c
 cl:Cls K C
section
variable{p:Pos}
def selM(m:Str)(l:List (Str×↑25)):Er->Option ↑25
 |.val (.obj c ns _)=>if m∈ns then none else l.lookup c
 |_=>none
def NJ(m:Str)(n:Nat)(l:List (Str×(List MV->Sto->R Er)))(f:AX)(af:Rho->Sto->R (List Er))(ρ:Rho)(S:Sto):R Er:=(f ρ S).bind λp S=>match selM m l p with
 |some F=>(af ρ S).bind λr S=>zQ n F (p::r) S
 |none=>.no
end
noncomputable def oA:List MV->Option (List (List Nat))
 |[]=>some []
 |.str x::ds=>(oA ds).map (x::·)
 |_::_=>none
theorem Ez{K:P0}: ∀{ds}{q}{vs}{m},oA ds=some q->DenL K α H ds vs->Vals vs m-> ∃l:List (Str×Tok),m=strValues l/\l.map (·.1)=q.map kX
 |[],q,vs,m,e,d,r=>by cases e;rw[d.isnil]at r;cases r;exact⟨[],rfl,rfl⟩
 |x::ds,q,vs,m,e,d,r=>by
  refine d.uncons.b λv r' g u B=>?_;subst g
  cases r with
  |cons a b=>
   cases x<;>first |(cases e)|skip
   rename_i i;unfold oA at e
   cases z:oA ds with
   |none=>rw[z]at e;cases e
   |some ms=>
    rw[z]at e;cases e;cases kS u;obtain⟨t,rfl⟩:=a;refine(Ez z B b).a λl h c=>?_;subst h;exact⟨(kX i,t)::l,rfl,by rw[æ,c];rfl⟩
section
variable{es:O0}{pos apos:Pos}
def UK:Er->List Er->Sto->R Er
 |p,[r],S=>match Ah S r with
  |some zs=>FN p S λds=>if ds.length+zs.length<=sizeLine then some (ds++zs)else none
  |none=>.no
 |_,_,_=>.no
def Jp:Ba X W Dq UK:=by
 intro p B x F α S A H Q d n w q h a
 match B,h,a with
 |[],_,a=>exact a.elim
 |_::_::_,_,a=>exact a.elim
 |[r],h,a=>
  have a:Post X.g W d A (match Ah S r with |some m=>FN p S λo=>if o.length+m.length<=sizeLine then some _ else none|none=>.no) Q:=a;split at a
  .rename_i m C;refine(QQ h).a λv G D=>?_;subst G;refine(TX n C D).b λb z I u i=>?_;subst I;refine(GY n w q a).o λc y o es J s j e k=>?_;subst J;split at e
   .rename_i E;cases e;exact Y4 c b y z ⟨rfl,rfl,s,u,(by rw[j.length,i.length];exact E),k _ (j.append i)⟩
   .cases e
  .exact a.elim
def DC(ho:zR X W a f)(y:IM X W (e::es) af)
  (hbase:attributeBase a "extend" X.env (eval a X.env)=eval a X.env:=by rfl)
  (hfew:((backTo pos (starEach (e::es) X.env)).all (λx=>!x.1)&&(backToKw pos (keywordEach [] X.env)).all (λx=>x.1.isSome)
   &&decide ↑9)=true:=by rfl)
  (hline:(apos.endLine==pos.line)=true:=by rfl) (hs:q8 X e es:=by rfl) (hplain:q9 X pos es:=by rfl):
  zR X W (.Call (.Attribute a "extend" apos) (e::es) [] pos) (λρ S=>(f ρ S).bind λp S1=>if kH p S1=true then(af ρ S1).bind λrs B=>UK p rs B else .no):=
 Dv PySem.F.plainAttrs_list PySem.F.slot_list_extend PySem.F.type_list_extend (by
   intro pins s σ H x J v L Q I E G h;refine h.i λl b xs M g=>g.f λP R k o O q=>?_;subst P;subst R;cases E;refine G.one.a λu T C=>?_;subst T;cases C;obtain⟨z,d,n,r,N,e⟩:=I.lstM k;obtain⟨K,c,A,m,w,D⟩:=I.lstM o;have j:d.toArray.size+c.toArray.size<=sizeLine:=by rw[sA,sA];lia
   have i: ¬(!d.toArray.isEmpty&&Builtin.List.listTooLong (d.toArray.size+c.toArray.size))=true:=by rw[WL j,Bool.and_false];exact xF0
   refine call_meets F.slot_list_extend ⟨_,e,rfl⟩ F.entry_list_extend (F.args_list_extend_2 _ _)
    (AutoSeq1.list_extend_list_list_0 l d.toArray n b c.toArray A i (by rw[sA];lia) #[0]) ⟨e,D,?_⟩
   refine Z3 .non _ (I.lset k e (by simp) (r.append m) ?_) rfl q;rw[lA]
   lia) Jp UB ho y hbase hfew hline hs hplain
end
theorem RJ{K:P0}: ∀(ps:Ch),DenL K α H (ps.map MV.str) (ps.map λp=>V.str (kX p))
 |[]=>yN
 |p::ps=>yD (nI p) (RJ ps)
theorem args_sorted1(a):argsOk "sorted" ⟨[a],[]⟩:=by unfold argsOk;kernel_rfl
open Classical in
def _root_.L2.Room.u128{k:Nat}{A:Around}(r:Room k A):A.units+128<cLine:=by have:=r.un;omega
section
def RK(d:MV):Prop:= ∃x r,d=.tup (.int x::r)
theorem Ww(I:↑1)(n:↑31)(hu:A.units+64<cLine){k:Bool}(kd:RK d)(P:RK f)(L:Den X.K α H d x)(Y:Den X.K α H f y)(rx:RelV x u)(W:RelV y v)
  (h:KC S zO d f=some k) (prog) (w) (E) (Q) (hq:Q k s):wpAny ↑7 A (keyLt' (tuples' true) u v) Q E s:=by
 refine kd.j λo D R=>?_;subst R;refine P.j λj p V=>?_;subst V;refine(Br I L rx).p λa1 ab z ac M v1 Z _=>?_;subst ac;refine(Br I Y W).p λa2 U C ad T J t2 _=>?_;subst ad;refine M.uncons.b λw1 q1 al r N=>?_;subst al;refine T.uncons.b λw2 q2 am F O=>?_;subst am
 cases v1 with
 |@cons _ u1 _ us1 rv1 rr1=>
  cases J with
  |@cons _ u2 _ us2 rv2 rr2=>
   have h':(eqv S 39 (.int o) (.int j)).bind (λk=>if k=true then Iu _ _ D p else KC S 39 _ _)=some k:=h;have q:eqv S 39 _ _=some _:=lR 38 o j;have ea:=GV I n 39 A _ _ _ _ _ _ _ #[0] r F rv1 rv2 q;cases xI r;cases xI F;obtain⟨G,rfl⟩:=rv1;obtain⟨aa,rfl⟩:=rv2;rw[q]at h';refine Srt.wp_keyLtI Z t2 ea ?_ hq
   cases B:decide (o=j)with
   |true=>
    rw[B]at h';have i:Iu _ _ D p=some k:=h'
    exact zCU (Mz (λd f x y u v k a b c m e=>GV I n 39 A d f x y u v k #[0] a b c m e)
     (λd f x y u v k a b c m e=>Be I n 39 A d f x y u v k #[0] a b c m e) N O rr1 rr2 i)
   |false=>
    rw[B]at h';have i:_=some k:=h';cases i;rfl
theorem zDA(I:↑1)(wd:↑31)(hu:A.units+64<cLine)(hne:kds≠[])(hkind: ∀d,d∈kds->RK d)(ho:OrdD S kds):
  Srt.Cmp ↑5 A E' s (tuples' true) (λp=> ∃d v,d∈kds/\Den X.K α H d v/\RelV v p.1) (ltV X.K α H S kds) where
 go x y hx hy st hk Q hq:=by
  refine(MC hx).a λv1 d1 r1=>?_;refine(MC hy).a λv2 d2 r2=>?_;obtain⟨t,ht⟩:=ho.any _ (lV hne x.1) _ (lV hne y.1);have e:ltV X.K α H S kds x y=t:=by unfold ltV;rw[ht];rfl
  rw[e]at hq;exact Srt.wp_lt hk (λE Q hq=>Ww I wd hu (hkind _ (lV hne x.1)) (hkind _ (lV hne y.1)) d1 d2 r1 r2 ht X.prog X.w E Q hq) hq
 tr x y z h1 h2:=by unfold ltV at h1 h2 ⊢;have mx:=lV (K:=X.K) (α:=α) (H:=H) hne x.1;have my:=lV (K:=X.K) (α:=α) (H:=H) hne y.1;have mz:=lV (K:=X.K) (α:=α) (H:=H) hne z.1;obtain⟨t1,e1⟩:=ho.any _ my _ mx;obtain⟨t2,e2⟩:=ho.any _ mz _ my;rw[e1]at h1;rw[e2]at h2;have h1:=h1;have h2:=h2;subst h1 h2;rw[ho.tr _ mx _ my _ mz e1 e2];rfl
 as x y h:=by unfold ltV at h ⊢;have mx:=lV (K:=X.K) (α:=α) (H:=H) hne x.1;have my:=lV (K:=X.K) (α:=α) (H:=H) hne y.1;obtain⟨t1,e1⟩:=ho.any _ mx _ my;rw[e1]at h;have h:=h;subst h;rw[ho.as _ mx _ my e1];rfl
def V9(I:↑1)(h:kds≠[])(b: ∀d,d∈kds->RK d)(m:DenL X.K α H kds kvs)(e:Vals kvs ks):
  wpAny ↑5 A (keyKind' ks.toArray) (λq G=>G=s/\q=tuples' true) E' s:=by
 have ne:ks≠[]:=λz=>by have c:=e.length;have k:=m.length;rw[z]at c;exact h (List.length_eq_zero_iff.mp (by rw[<-k,c];rfl))
 have all: ∀u,u∈ks-> ∃d v,d∈kds/\Den X.K α H d v/\RelV v u:=by
  intro u j;obtain⟨i,hi⟩:=getElem?_of_mem j;have n:i<kvs.length:=by rw[e.length];exact(gS.mp hi).1
  refine(e.get (gE n)).a λJ c r=>?_;rw[hi]at c;cases c;refine(m.get (gE n)).a λd k D=>?_;exact Z3 d _ (î k) D r
 refine Srt.wp_kindI ne λu j=>?_;refine(all u j).b λd v B y r=>?_;refine(b d B).j λx L g=>?_;subst g;refine(Br I y r).p λa F C O l p t _=>?_;subst O;refine l.uncons.b λN M P o _=>?_;subst P
 cases p with
 |@cons _ u1 _ us1 rv rr'=>
  cases xI o;obtain⟨E,rfl⟩:=rv;exact Y2 a _ _ E us1 ⟨rfl,t,rfl⟩
end
section
theorem Jq(hu:X.A.units+128<cLine)(I:↑1)(wd:↑31)(hl:SqL X.K H l xs)(F:DenL X.K α H ds xs)
  (hlen:↑12<64) (hpu: ∀d,d∈ds->vY d=true) (hkd:2<=↑12-> ∀d,d∈ds->RK d) (hord:OrdD S ds) 
  (hQ: ∀(m:Db) p  ys ,m.Perm (List.range ↑12)->m.Pairwise (λi j=> ∀a c,ds[i]? =some a->ds[j]? =some c->KC S zO c a=some false)->H p=none->
   DenL X.K α H (m.filterMap (ds[·]?)) ys->Q (.ref p) (yQ H p (.lst ys))):wpAny ↑5 X.A (call (.builtin "sorted") [.ref l]) (EP X pins σ Q) X.xe s:=by
 refine(I.list hl).c λk D R _=>?_;obtain ⟨o,n0,e0,ah,_,ab⟩:=R;have aa:s.heap.IsList l k.toArray:=⟨o,e0,ah,n0,ab⟩
 have n:k.length=ds.length:=by rw[<-D.length,F.length]
 have aj:=ô;refine call_function_entry_kw kind_sorted plain_sorted entry_sorted (args_sorted1 _) ?_;unfold Builtin.«sorted»;refine wB (wP ?_);refine wB (collect_list aa ?_ #[0]);refine wB (wpAny_newList ?_);generalize P:(s.heap.push (seqObj "list" #[] 0)).update s.heap.objs.size (Obj.mapSeq (· ++k.toArray))=h1;have ai:h1.objs.size=↑3+1:=by rw[<-P,Heap.size_update,size_push']
 have k1: ∀b u,s.heap.get? b=some u->h1.get? b=some u:=λb u e=>by rw[<-P,ó _ _ (ċ (ã e))];exact hP0 _ e
 have C:(h1.push (seqObj "list" k.toArray 0)).get? h1.objs.size=some (seqObj "list" k.toArray 0):=ä _ rfl;show wpAny _ _ _ _ _ {s with heap:=h1.push (seqObj "list" k.toArray 0)};dsimp only;generalize hL:h1.objs.size=L at *;have J:↑3<=L:=by lia
 refine wB (ö (wpAny_call_entry_kw slot_list_sort (Z8 _ C rfl) entry_list_sort (Srt.sort_plainS C #[0] λG B=>?_) ((by unfold argsOk;kernel_rfl))));dsimp only at B;generalize af:h1.push (seqObj "list" k.toArray 0)=h2 at *;have fL:EI X pins H L:=I.fpOk J (I.hok.fresh J);have k3: ∀b u,s.heap.get? b=some u->G.heap.get? b=some u:=λb u e=>by rw[B];refine hP0 _ (hP0 _ ?_);rw[ó _ _ (ċ (é (ã e) J)), <-af];exact hP0 _ (k1 b u e)
 have N:Inv X pins σ H G:=by have:=I.kept (t':=s.toks) k3;rw[B]at this ⊢;exact this
 have Z:X.A.in1.in1.units+64<cLine:=by show X.A.units+1+1+64<cLine;lia
 obtain⟨q,gL⟩: ∃q,G.heap.get? L=some (seqObj "list" #[] q):=by rw[B];exact⟨_,hP0 _ (hP0 _ (get?_update_seq C (λ_=>#[])))⟩
 refine Zf (tuples' true) (λp=> ∃d v,d∈ds/\Den X.K α H d v/\RelV v p.1) (ltV X.K α H S ds) (λE=>?_) (λout op os=>?_)
 .have ne:ds≠[]:=λz=>by rw[n,z]at E;exact absurd E ↑4
  have y:=hkd (n▸E);refine⟨V9 N ne y F D,zDA N wd Z ne y hord,λp hp=>?_⟩;have ag:p.1∈k:=(of_mem_zip hp).1;obtain⟨i,hi⟩:=getElem?_of_mem ag;have M:i<xs.length:=by rw[D.length];exact(gS.mp hi).1
  refine(D.get (gE M)).a λu' O r=>?_;rw[hi]at O;cases O;refine(F.get (gE M)).a λd U Y=>?_;exact Z3 d _ (î U) Y r
 .refine(RD op.symm (List.range ↑12) (Ji n n)).a λm W ie=>?_;have T: ∀i,i∈m->i<ds.length:=λi hi=>ø.mp (W.mem_iff.mp hi);have eo:out.map (·.2)=m.filterMap (k[·]?):=by rw[<-ie,ď];exact MD λi hi=>by rw[n];exact T i hi
  have po:m.Pairwise (λi j=> ∀a c,ds[i]? =some a->ds[j]? =some c->KC S zO c a=some false):=by rw[<-ie,pairwise_map]at os;refine List.Pairwise.imp_of_mem (λ{i j} hi hj h a c ha hc=>?_) os;have ui:k[i]? =some (k[i]'(by rw[n];exact T i hi)):=gE _;have uj:k[j]? =some (k[j]'(by rw[n];exact T j hj)):=gE _;have h':(KC S zO _ _).getD false=false:=h;rw[ui,uj]at h';simp only[Option.getD_some]at h';rw[On N hpu F D ui ha,On N hpu F D uj hc]at h';obtain⟨t,ht⟩:=hord.any c (î hc) a (î ha);rw[ht]at h';have h':t=false:=h';rw[ht,h']
  have vy:=Vals.pick D m;refine Z8 _ rfl (wP ⟨_,rfl,.ref L,_,?_,rfl,hQ m L _ W po (I.hok.fresh J) (F.pick m)⟩);refine fL.f λf0 f1 f2 f3 f4 f5=>?_
  have I6:Inv X pins σ H {G with heap:=G.heap.update L (Obj.mapSeq λ_=>(out.map (·.2)).toArray)}:=
   N.turned (λb o hb e=>(ó _ _ (Ne.symm hb)).trans e) f0 f1 f3 f4 f5
  obtain⟨n',ae⟩: ∃n',(G.heap.update L (Obj.mapSeq λ_=>(out.map (·.2)).toArray)).get? L=some _:=⟨_,by have:=get?_update_seq gL (λ_=>(out.map (·.2)).toArray);rw[eo]at this ⊢;exact this⟩
  refine Jh I6 ⟨f0,f1,f2,f3,f4,f5⟩ (í I.sz J) ae vy ?_
  .have:=Ĝ (xs[·]?) m;have h3:=W.length_eq;rw[ñ]at h3
   lia
end
structure SrtJ(S:Sto)(ds:R0):Prop where
 len:↑12<64
 pu: ∀d,d∈ds->vY d=true
 kind:2<=↑12-> ∀d,d∈ds->RK d
 ord:OrdD S ds
open Classical in
def RL(rs:List Er)(S:Sto):R Er:=match rs with
 |[p]=>match cE S p with
  |some ds=>if h: ∃r,SrtJ S ds/\ ∀a,Ep S ds ds a->a=r then .ok (.new (Classical.choose h)) S else .no
  |none=>.no
 |_=>.no
def Wx(e:cE S p=some ds)(ok:SrtJ S ds)(u: ∀r',Ep S ds ds r'->r'=r)(b:Ep S ds ds r):RL [p] S=.ok (.new r) S:=by
 unfold RL;dsimp only;rw[e];dsimp only;have h: ∃r,SrtJ S ds/\ ∀r',Ep S ds ds r'->r'=r:=(Z8 r ok u)
 rw[dif_pos h];obtain⟨_,a⟩:=ú h;rw[<-a r b]
section
def Wy:qH X W (λxs H Q=> ∃α S l vs ds,xs=[.ref l]/\Wd X.g α S H/\SqL X.K H l vs/\DenL X.K α H ds vs/\SrtJ S ds/\
  ∀(m:Db) p  ys ,m.Perm (List.range ↑12)->m.Pairwise (λi j=> ∀a c,ds[i]? =some a->ds[j]? =some c->KC S zO c a=some false)->H p=none->DenL X.K α H (m.filterMap (ds[·]?)) ys->Q (.ref p) (yQ H p (.lst ys))) RL:=by
 intro B vs α S H Q k d b;unfold RL at b;split at b
 .split at b
  .rename_i ds e;split at b
   .rename_i h;refine(oV d).a λv C y=>?_;subst C;refine(vT rfl k e y).b λl q D o s=>?_;subst D;obtain⟨ok,u⟩:=ú h;refine Yt (α) S l q ds rfl k o s ok (λm p ys A w r n=>?_);have z:=u _ (Z1 m A w rfl);rw[z]at n;exact Post.newl b k r n
   .exact b.elim
  .exact b.elim
 .exact b.elim
end
section
variable{X:Cx}{a o i e:Expr}{α:B9}{H:Hp}{pins:L1}{σ:St}{s:ŀ}
def W1:MV->Option Key
 |.int i=>some (.inl i)
 |.str x=>some (.inr (kX x))
 |_=>none
def Wz: ∀{k}{k'},W1 k=some k'->KeyD k k'
 |.int i,_,h=>by cases h;exact rfl
 |.str x,_,h=>by cases h;exact rfl
 |.non,_,h=>nomatch h
 |.bl _,_,h=>nomatch h
 |.tup _,_,h=>nomatch h
 |.scr _,_,h=>nomatch h
 |.loc _,_,h=>nomatch h
 |.typ _,_,h=>nomatch h
 |.obj _ _ _,_,h=>nomatch h
def Pa: ∀{k}{k'}{v},W1 k=some k'->Den X.K α H k v->v=kV k'
 |.int i,_,_,h,d=>by cases h;exact xI d
 |.str x,_,_,h,d=>by cases h;exact kS d
 |.non,_,_,h,_=>nomatch h
 |.bl _,_,_,h,_=>nomatch h
 |.tup _,_,_,h,_=>nomatch h
 |.scr _,_,_,h,_=>nomatch h
 |.loc _,_,_,h,_=>nomatch h
 |.typ _,_,_,h,_=>nomatch h
 |.obj _ _ _,_,_,h,_=>nomatch h
def YF: ∀{k}{u},RelV (kV k) u->(kD X.prog X.w).is k u=true
 |.inl i,_,h=>by obtain⟨t,rfl⟩:=(h: ∃t,_=_);exact IC _ _ i t
 |.inr x,_,h=>by obtain⟨t,rfl⟩:=(h: ∃t,_=_);exact AT _ _ x t
def HE(k:MV):Bool:=(W1 k).isSome
def A2(j:ObD X.g α H d (.dic kvs))(c:kvs.all (λp=>HE p.1)=true): ∃m,DK X H d m/\DenK X.K α H kvs m:=by
 rcases j with⟨m,h,l⟩|⟨xs,h,l⟩
 .exact(Z8 m (.inl h) l)
 .cases l with
  |nil=>exact Z8 ([]) (.inr ⟨rfl,h⟩) .nil
  |@cons k nk a d v u fs xs hn e ha hd r l=>
   rw[List.all_cons,aE]at c;obtain⟨i,b⟩:=ā.mp c.1;have:=Pa b ha;cases i<;>cases this
def JO(S:Sto):Er->Option (Nat×List (MV×MV))
 |.val (.loc l)=>match S[l]? with
  |some (.dic kvs)=>if kvs.all (λp=>HE p.1)=true then some (l,kvs)else none
  |_=>none
 |_=>none
def A3(i:↑31)(e:JO S r=some (l,kvs))(d:DenX X.K α H r x):
  ∃c m,x=.ref c/\α[l]? =some c/\S[l]? =some (.dic kvs)/\DK X H c m/\DenK X.K α H kvs m/\kvs.all (λp=>HE p.1)=true:=by
 unfold JO at e;split at e
 .rename_i n;refine(aG d).a λc k h=>?_;subst k;split at e
  .rename_i m b;split at e
   .rename_i a;obtain⟨rfl,rfl⟩:=Prod.mk.inj (å e);refine(A2 (i.obj _ c _ h b) a).a λxs j l=>?_;exact Y9 c xs ⟨rfl,h,b,j,l,a⟩
   .cases e
  .cases e
 .cases e
def Cb(dd:DK X H d ks):F2 (H d):=by rcases dd with z|⟨_,z⟩<;>rw[z]<;>exact trivial
def zDB(X:Cx):TSet:=λo i v H Q=> ∃(a:List (Key×V))(d:Addr)(k:Key),o=.ref d/\i=kV k/\DK X H d a/\a.length<sizeLine/\Q (yQ H d (.dK (DM a k v)))
def vZ(p q:Er)(d:MV)(ρ:Rho)(S:Sto):R Rho:=match q with
 |.val k=>match JO S p with
  |some (l,kvs)=>if HE k=true/\kvs.length<1000000 then .ok ρ (S.set l (.dic (putK kvs k d)))else .no
  |none=>.no
 |_=>.no
def UL(ho:zR X W o f)(hi:zR X W i g)
  (ha: ∀v,assign (.Subscript o i pos) X.env v=(do
   let B <-holding [v] (eval o X.env);let D <-holding [v,B] (eval i X.env)
   standAt pos
   holding [v,B,D] (setItem B D v)
   release [v,B,D] []):=by intro _;rfl):Mt X W (.Subscript o i pos) (λd ρ S=>(f ρ S).bind λp S1=>(g ρ S1).bind λq N=>vZ p q d ρ N):=by
 refine ho.a λto ho U=>?_;refine hi.a λti hi fi=>?_;refine(Z8 _ (Lp ho hi (show J9 X (zDB X) by
   intro pins s σ H o i v B D u Q I Z ri rv h;refine h.p λw d k V ac j hz q=>?_;subst V;subst ac;cases Z;obtain⟨z,hd,vs,n,Y⟩:=lW I j;have hl:=Paired.length n;have hp:=ME w k v;refine wpAny_setItem_pairs (YF ri) Y λh' m G=>(Z8 _ ?_ q)
   exact I.write (Cb j) (.inl rfl) (λb uo hb eo=>(G.2 b hb).trans eo) (let ⟨q,_,_,hq,_⟩:=m;⟨q,hq⟩) ⟨by lia,hd,_,Oo n _ rv,m⟩) ha) (λα ρ S σ H d v Q wd sl de q=>U α ρ S σ H _ wd sl (q.bind λu p S1 E H1 e1 y T d1 q1=>fi E ρ S1 σ H1 _ T (sl.ext y) ((q1.shift y).bind λu2 p2 N C H2 e2 A J d2 a=>?_))))
 replace a:=a.shift A
 unfold vZ at a;split at a
 .rename_i k;split at a
  .rename_i l aa e;split at a
   .rename_i P;refine(A3 J e (DenX.ext A d1.1)).j λc w R=>R.f λad L hS j O M=>?_;subst ad;obtain⟨K,r⟩:=ā.mp P.1;refine Y6 w c K rfl (Pa r d2.1) j ?_ ?_
    .rw[O.length];exact é P.2 (fits (à _))
    .have F:=J.writex L j.nf (o:=.dK (DM w K v));exact a σ C _ F (J.write L j.nf (.inl ⟨_,zI,(YA O (Wz r) ((de.ext y).ext A)).ex0 F.toEx0⟩)) (((sl.ext y).ext A).ext F)
   .exact a.elim
  .exact a.elim
 .exact a.elim
def Pb{b:Type}[DecidableEq b]{knd:KeyKind prog w b}{k:b}{f:b->Option Ł}(a:knd.is k key=true)(hd:(d==sysModules)=false)(c:s.heap.MapOf knd d f)
  (h:Q (.bool !(f k).isSome) {s with toks:=s.toks+1}):wpAny ↑7 A (compareOp .NotIn key (.ref d)) Q E s:=by
 show wpAny _ _ _ Q E s;refine wB ?_;unfold contains
 try with_reducible refine ö ?_
 refine wB (Ĺ c.typeIs slot_dict_contains.lookup ?_);show wpAny _ _ _ _ E s
 refine wB (wpAny_callSpecialUnlessNone?_slot c.typeIs slot_dict_contains
  (Ă slot_dict_contains c.typeIs entry_dict_contains ?_ (args_dict_contains _ _)))
 show wpAny _ _ (dictGet d key >>= _) _ _ s;refine wB (wpAny_dictGet_of a c ?_)
 cases e:f k with
 |some v=>
  rw[e]at h;show wpAny _ _ _ _ _ _;exact wP (Z8 _ rfl (ý (wP h)))
 |none=>
  rw[e]at h;show wpAny _ _ _ _ _ _;exact wB (wpAny_pendingKey_other hd (wP (Z8 _ rfl (ý (wP h)))))
abbrev W2(X:Cx)(b:Bool):R2:=λx y H Q=> ∃(a:List (Key×V))(d:Addr)(k:Key),x=kV k/\y=.ref d/\DK X H d a/\
 Q (.bl (if b=true then !(tY a k).isSome else(tY a k).isSome)) H
theorem look_same(r:KV ks vs)(k):(valueAt vs k).isSome=(tY ks k).isSome:=by
 obtain⟨a,b⟩:=Ey r k
 cases h:tY ks k with
 |none=>rw[b h];rfl
 |some v=>refine(a v h).a λu e _=>?_;rw[e];rfl
def Pc:OpR X (compareOp .In) (W2 X false):=by intro pins s σ H x y v u Q I j b h;refine h.n λe d k g n c q=>?_;subst g;subst n;cases b;obtain⟨_,hs,m,a,i⟩:=lW I c;refine wpAny_in_of (YF j) hs i.mapOf ?_;rw[look_same a k];exact Z3 (.bl (tY e k).isSome) H (I.kept (λ_ _ z=>z)) rfl q
def HF(a:Bool)(p q:Er)(S:Sto):R Er:=match p with
 |.val k=>match JO S q with
  |some (_,kvs)=>if HE k=true then .ok (.val (.bl (if a=true then !(look kvs k).isSome else(look kvs k).isSome))) S else .no
  |none=>.no
 |_=>.no
def UM:QN X W (W2 X neg) (HF neg):=by
 intro p q x y α S H Q i n A a;unfold HF at a;split at a
 .rename_i k;split at a
  .rename_i l b e;split at a
   .rename_i s;refine(A3 i e A).j λc m g=>g.f λB _ _ w z _=>?_;subst B;obtain⟨j,d⟩:=ā.mp s;refine ZY m c j (Pa d n) rfl w ?_;rw[(show (tY m j).isSome=(look b k).isSome by
     obtain⟨r,o⟩:=RI z (Wz d)
     cases h:look b k with
     |none=>rw[o h];rfl
     |some v=>refine(r v h).a λu e _=>?_;rw[e];rfl)];exact Post.val a i (xU _)
   .exact a.elim
  .exact a.elim
 .exact a.elim
def W3(h:zR X W a f)(c:zR X W b g)(e:behindInMarks .In b=false:=by with_unfolding_all rfl):zR X W (.Compare a [.In] [b] pos) (λρ S=>(f ρ S).bind λp S1=>(g ρ S1).bind λq d=>HF false p q d):=LK Pc UM h c e
def W4(h:zR X W a f)(c:zR X W b g)(e:behindInMarks .In b=false:=by with_unfolding_all rfl):AR X W (.Compare a [.In] [b] pos) (λρ S=>((f ρ S).bind λp S1=>(g ρ S1).bind λq d=>HF false p q d).bind bN):=sR Pc UM h c e
def RM(w:zR X W a f)(i:zR X W b g)(n:behindInMarks .NotIn b=false:=by with_unfolding_all rfl):AR X W (.Compare a [.NotIn] [b] pos) (λρ S=>((f ρ S).bind λp S1=>(g ρ S1).bind λq B=>HF true p q B).bind bN):=sR (by intro pins s σ H x y v u Q I r e h;refine h.n λm d k C D j q=>?_;subst C;subst D;cases e;obtain⟨_,hs,A,c,o⟩:=lW I j;refine Pb (YF r) hs o.mapOf ?_;rw[look_same c k];exact Z3 (.bl !(tY m k).isSome) H (I.kept (λ_ _ z=>z)) rfl q) UM w i n
end
section
variable{X:Cx}{a b i e:Expr}
def Xa(p:Er)(S:Sto):Bool:=(JO S p).isSome
def Jv: ∀{d},KV ks vs->d.length=↑47->(∀(j:Nat) v ,d[j]? =some v-> ∃(k:Key)(x:Ł),vs[j]? =some (k,x)/\(kD X.prog X.w).is k v=true)->Vals (ks.map λp=>kV p.1) d:=by
 intro d o
 induction o generalizing d with
 |nil=>intro c _;cases d with
  |nil=>exact .nil
  |cons a b=>simp at c
 |@cons p q ps qs h t ih=>
  intro c m
  cases d with
  |nil=>simp at c
  |cons a b=>
   refine(m 0 a rfl).d λk x e hi=>?_;simp only[List.getElem?_cons_zero,Option.some.injEq]at e;subst e;rw[æ];refine .cons ?_ (ih (by simpa using c) λj v n=>by simpa using m (j+1) v (by simpa using n));rw[h.1];rcases yL hi with⟨i,t,e1,e2⟩|⟨i,t,e1,e2⟩
   .subst e2;rw[show k=.inl i from e1];exact⟨t,rfl⟩
   .subst e2;rw[show k=.inr i from e1];exact⟨t,rfl⟩
end
section
variable{α:B9}
def uZ:List Er->Sto->R Er
 |[r],S=>match JO S r with |some (_,kvs)=>.ok (.new (kvs.map (·.1))) S|none=>.no
 |_,_=>.no
def YG(q:X.calm=true):qH X W (λxs H Q=> ∃d m,xs=[.ref d]/\DK X H d m/\X.calm=true/\ ∀l,H l=none->Q (.ref l) (yQ H l (.lst (m.map λp=>kV p.1)))) uZ:=by
 intro w s α S H Q b d a;unfold uZ at a;split at a
 .split at a
  .rename_i n j e;refine(oV d).a λv y k=>?_;subst y;refine(A3 b e k).j λc m g=>g.f λz r u h i _=>?_;subst z;exact ZB c m rfl h q (λl o=>Post.newl a b o (HC i))
  .exact a.elim
 .exact a.elim
def Pd(j:X.calm=true):qH X W (λxs H Q=> ∃(a:Addr)(bs:M0),xs=[.ref a]/\SqL X.K H a (bs.map V.bl)/\X.calm=true/\Q (.bl (bs.any id)) H) Nn:=by
 intro n k α S H Q c d b;unfold Nn at b;split at b
 .split at b
  .rename_i bs e;refine(oV d).a λv g i=>?_;subst g
   cases z:cE S _ with
   |none=>rw[z]at e;cases e
   |some ds=>
    rw[z]at e;refine(vT rfl c z i).b λh m o s l=>?_;subst o;refine ZB h bs rfl ?_ j (Post.val b c (xU _));rw[<-GW e l];exact s
  .exact b.elim
 .exact b.elim
end
section
variable{b:Expr}
def FS:CallR X (.builtin "any") (λxs H Q=> ∃(a:Addr)(bs:M0),xs=[.ref a]/\SqL X.K H a (bs.map V.bl)/\X.calm=true/\Q (.bl (bs.any id)) H):=by
 intro pins s σ H xs O Q I r h;refine h.g λa bs g C A q=>?_;subst g;refine(vals1 r).a λu R J=>?_;subst R;cases J;refine(I.list C).c λd B y T=>?_;have c:d.length=bs.length:=by rw[<-↑16,lM0]
 refine PySem.call_any_walk (Ę y.isList ?_);have L:a≠s.heap.objs.size:=by refine y.isList.a λo G _=>?_;exact ê (ã G)
 have I1: ∀(h':Heap)(p:Nat),(∀b o,b∉[↑3]->(s.heap.push {cls:=.type "list_iterator",data:=.fields #[.ref a,.int 0 0]}).get? b=some o->h'.get? b=some o)->Inv X pins σ H {s with heap:=h',toks:=p}:=λh' p k=>
  I.kept λb o e=>k b o (by simpa using ê (ã e)) (hP0 _ e)
 refine Yc (↑3) ([↑3,a]) ([↑3]) d.toArray.size _ _ (λi=>bs.getD i false) ⟨rfl,PySem.Walks.list (by first |exact I.ok.hd A|exact(I.ok.hd A)) _ a L d.toArray,⟨(Z1 _ (ä _ rfl) rfl rfl),y.isList.at λo e=>hP0 _ e⟩,?_,(λh' p k=>?_)⟩
 .intro i v S P M F z;have j:=by simpa using F
  have hi:i<bs.length:=by rw[<-c];exact(gS.mp j).1
  have E:(bs.map V.bl)[i]? =some (V.bl (bs.getD i false)):=by simp[ć,hi]
  refine(B.get E).a λN n w=>?_;rw[j]at n;cases n;cases w;exact ý z
 .refine(Z3 (.bl _) H (I1 h' p k) ?_ q);congr 1;rw[sA,c]
  have: ∀(l:M0),(List.range l.length).any (λi=>l.getD i false)=l.any id:=by
   intro l;rw[Bool.eq_iff_iff,ı,ı];constructor
   .rintro⟨i,hi,h⟩;have m:=ø.mp hi;exact⟨l[i],Ĭ m,by simpa [ć,m]using h⟩
   .rintro⟨x,D,h⟩;obtain⟨i,hi,rfl⟩:=getElem_of_mem D;exact⟨i,ø.mpr hi,by simpa [ć,hi]using h⟩
  exact this bs
def shrC(i j:Int):Prop:=0<=j
instance(i j:Int):Decidable (shrC i j):=inferInstanceAs (Decidable (_<=_))
end
end M
end L2
namespace PySem
def getAttr?_miss_list
  (r:s.heap.get? a=some o) (v:o.cls=.type "list") (i:o.data=.seq xs k) (hd:o.dict=none) (j:typeLookup (.type "list") name=pure none) (m:(["__module__","__name__","__qualname__","__doc__","__annotations__"]:C0).contains name=false) (y:A.handled=none)
  (h: ∀h' q,↑49->Q none {s with heap:=h',toks:=q}) (hsz:name.length+100<=sizeLine:=by size_fits):
  wpAny ↑7 A (getAttr? (.ref a) name) Q E s:=by
 obtain⟨c,B,C,sl⟩:=o;simp only at v i hd;subst v i hd;obtain⟨z,g,d,q,os⟩:=s;have u: ∀n,(⟨z,g,d,n,os⟩:ŀ).TypeIs (.ref a) "list":=λ_=>(Z8 _ r rfl)
 have K:=sub_AttributeError;have J:=F.slot_list_getattribute.lookup;have H:=F.slot_list_getattribute.bind (.ref a);have G:=am_list_getattr_none;unfold getAttr? getAttrBy? getAttrBy
 repeat (any_goals (first |assumption|exact u _|((with_reducible show wpAny _ _ (call _ _ _) _ _ _);refine call_meets F.slot_list_getattribute (u _) am_entry_list_getattribute (F.args_list_getattribute_2 _ _) (meets_getattribute_miss_list a xs k sl name _ j m hsz) ⟨r,y,λh' n e p=>?_⟩)|wp_step))
 refine p.there.j λL I D=>?_;show wpAny _ _ _ _ _ _;unfold getattributeRaised
 repeat (any_goals (first |assumption|wp_step))
 exact h _ _ p.keeps
namespace F
def entry_dict_update_loop:entryFor table "dict.update.loop"=some Builtin.«dict.update.loop»:=entryFor_of_tree (by kernel_rfl)
def plain_dict_update_loop:plainId "dict.update.loop"=true:=by decide+kernel
end F
open PyProof.Rows
section
variable{K:Type}[DecidableEq K]{knd:KeyKind prog w K}
def Cc(knd:KeyKind prog w K)(h:Heap)(c:K×Ł)(v:Ł):Prop:= ∃a b,v=.ref a/\IsTup h a #[b,c.2]/\knd.is c.1 b=true
theorem FT{St:Nat->Heap->Prop}(W:Walks prog w A.in1 I fp [I] n P St)(E:D∉fp)(kvs)(Z:kvs.length=n)(hz:n<=sizeLine)
  (hP: ∀i v,P i v-> ∃N,kvs[i]? =some N/\Cc knd h₀ N v) (hI:h₀.get? I=none) (hD:h₀.get? D=none):
  ∀ k i  j  s ,n - i=k->i<=n->St i s.heap->s.heap.DictOf knd D (merged [] (kvs.take i))->(∀b o,h₀.get? b=some o->s.heap.get? b=some o)->
   (∀h' G,(∀b o,h₀.get? b=some o->h'.get? b=some o)->h'.DictOf knd D (merged [] kvs)->R (.ok (.ret .none)) {s with heap:=h',toks:=G})->
   codeAny ↑7 A (.builtin "dict.update.loop" ⟨[.ref D,.ref I,rawInt j,.none],[]⟩) R s:=by
 have H:D≠I:=λe=>E (e▸W.sub _ (mS.mpr rfl));intro k
 induction k with
 |zero=>
  intro i j s hk hi q J c T;have X:i=n:=by lia
  subst X;refine Ĥ F.entry_dict_update_loop ?_;rw[Around.under_plainId F.plain_dict_update_loop _];show wpAny _ A.in1 _ _ _ s;refine wB (W.done s _ _ q λh' G m=>?_);show wpAny _ A.in1 _ _ _ _;refine wB (wP ?_);rw[<-Z,List.take_length]at J;refine wP (T h' G (λb o e=>?_) ?_)
  .exact m b o (λh=>by rw[mS.mp h,hI]at e;cases e) (c b o e)
  .refine J.m λo es O r rest=>?_;exact Zf o es O (m D o (λh=>H (mS.mp h)) r) rest
 |succ k ih=>
  intro i j s hk hi q J c T;have C:i<n:=by lia
  refine Ĥ F.entry_dict_update_loop ?_;rw[Around.under_plainId F.plain_dict_update_loop _];show wpAny _ A.in1 (pyNext (.ref I) >>= _) _ _ s;refine wB (W.item i s _ _ C q λv h' G U u m=>?_);obtain⟨N,M,a,ab,rfl,hT,B⟩:=hP i v U;have d: ∀b o,h₀.get? b=some o->h'.get? b=some o:=λb o e=>m b o (λh=>by rw[mS.mp h,hI]at e;cases e) (c b o e);have Q:h'.DictOf knd D (merged [] (kvs.take i)):=by refine J.m λo es O r rest=>?_;exact Zf o es O (m D o (λh=>H (mS.mp h)) r) rest
  obtain⟨o,r,hc,nn,y⟩:=hT.keeps d;have S:Shared.TypeIs {s with heap:=h',toks:=G} (.ref a) "tuple":=(Z8 o r hc)
  refine wB (ö ?_);refine wB (wpAny_tryCatch ?_);unfold Builtin.Dict.pairItems;refine wB (wpAny_typeOf S ?_);rw[iP ↑4];refine wB ?_;show wpAny _ _ _ _ _ _;refine wB (wpAny_load r ?_);rw[y];refine wP (wP ?_);show wpAny _ _ _ _ _ _;refine ö ?_;have Y:=merged_length_le [] (kvs.take i);have aa:(kvs.take i).length<=n:=by rw[<-Z];exact List.length_take_le' i kvs
  refine wpAny_dictSet_pairs B Q λh2 L z=>?_;have p: ∀b o,h₀.get? b=some o->h2.get? b=some o:=λb o e=>by rw[z.2 b (λh=>by rw[h,hD]at e;cases e)];exact d b o e
  refine wP ⟨plainId_quiet F.plain_dict_update_loop _,ih (i+1) (j+1) _ #[0] C (W.frame _ _ _ u λb hb o e=>?_) ?_ p λh3 K k3 d3=>T h3 K k3 d3⟩
  .rw[z.2 b (λh=>E (h▸hb))];exact e
  .rw[merged_take_succ _ _ _ _ M];exact L
def JP(C:A.handled=none)(ho:s.heap.get? l=some o)(B:o.cls=.type "list")(hd:o.dict=none)(d:o.data=.seq its c)(u:its.size=kvs.length)(M:its.size<=sizeLine)
  (hP: ∀(i:Nat) v,its[i]? =some v-> ∃I,kvs[i]? =some I/\Cc knd s.heap I v)
  (h: ∀h' D,↑49->h'.DictOf knd ↑3 (merged [] kvs)->Q (.ref ↑3) {s with heap:=h',toks:=D}):
  wpAny ↑7 A (call (.type "dict") [.ref l]) Q E s:=by
 refine callType_codes (Q₁:=λp j=>p=.ref ↑3/\j={s with heap:=s.heap.push {cls:=.type "dict",data:=.dict #[]}}) F.kt_called_dict (F.kt_typeCall_dict_1 _) F.entry_dict_init (kt_code_dict_new _ ⟨rfl,rfl⟩) ?_;rintro p j ⟨rfl,rfl⟩;have a:(s.heap.push {cls:=.type "dict",data:=.dict #[]}).DictOf knd ↑3 []:=Heap.DictOf.new s.heap;have n:(s.heap.push {cls:=.type "dict",data:=.dict #[]}).get? l=some o:=hP0 _ ho;have G:=ã ho;refine⟨a.typeIs,F.args_dict_init_2 _ _,?_⟩;unfold Builtin.«dict.__init__»;refine wB ?_;unfold Builtin.Dict.selfAndRest;refine wB (wpAny_notOrdered_dict a.typeIs ?_);show wpAny _ _ _ _ _ _;refine wP ?_;show wpAny _ _ (Builtin.Dict.updateFrom "dict.__init__" ↑3 (.ref l) [] .none) _ _ _;unfold Builtin.Dict.updateFrom;refine wB (wpAny_typeOf (Z8 o n B) ?_);rw[iP ↑4];refine wB (getAttr?_miss_list n B d hd (am_miss_of_fast ↑21) ↑21 C (λy J z=>?_) ↑21);rw[iP (show(none:Option Ł).isNone=true from rfl)];refine wB (wpAny_rule ?_);have k:=z l o n;refine wB (Ę ⟨o,k,B,c,d⟩ ?_);have N:l≠y.objs.size:=ê (ã k);have r:↑3<y.objs.size:=by refine a.m λq _ _ m _=>?_;exact ã (z _ _ m)
 refine wP ⟨plainId_quiet F.plain_dict_update_loop _,FT (Walks.list (by first |exact C|exact C) y.objs.size l N its) ?_ kvs u.symm M hP ?_ ?_ _ 0 0 _ rfl (zero_le _) ⟨(Z1 _ (ä _ rfl) rfl rfl),⟨o,hP0 _ k,B,c,d⟩⟩ ?_ ?_ λh' D K H=>?_⟩
 .rw[mC,mS];rintro(e|e)
  .exact ê r e
  .exact ê G e.symm
 .cases m:s.heap.get? y.objs.size with
  |none=>rfl
  |some q=>exact absurd (ã m) (Nat.lt_asymm r)
 .cases m:s.heap.get? ↑3 with
  |none=>rfl
  |some q=>exact absurd (ã m) (ī _)
 .refine a.m λq es L m rest=>?_;exact Zf q es L (hP0 _ (z _ _ m)) rest
 .intro b q e;exact hP0 _ (z _ _ (hP0 _ e))
 .exact⟨rfl,h h' D K H⟩
end
end PySem
namespace L2
namespace M
open PySem PySem.Spec PyProof.Rows
section
variable{X:Cx}{α:B9}{H:Hp}
def YH(ps:List (Key×V)):List (Key×V):=ps.foldl (λa p=>DM a p.1 p.2) []
inductive PairsV(K:P0)(H:Hp):List V->List (Key×V)->Prop
 |nil:PairsV K H [] []
 |cons {a:Addr} {k:Key} {v:V} {vs ps}:SqT K H a [kV k,v]->PairsV K H vs ps->PairsV K H (.ref a::vs) ((k,v)::ps)
def Fa(r:KV ps qs): ∀{as}{bs},KV as bs->KV (ps.foldl (λd p=>DM d p.1 p.2) as) (merged bs qs):=by
 induction r with
 |nil=>intro as bs h;exact h
 |@cons p q ps qs h t ih=>
  intro as bs a;rw[List.foldl_cons];show KV _ _;rw[h.1];exact ih (Oo a _ h.2)
def Pe(I:↑1)(r:PairsV X.K H vs ps): ∀{d},Vals vs d-> ∃m:List (Key×Ł),KV ps m/\m.length=d.length/\ ∀(i:Nat) v,d[i]? =some v-> ∃q,m[i]? =some q/\Cc (kD X.prog X.w) s.heap q v:=by
 induction r with
 |nil=>intro d h;cases h;exact Z1 ([]) .nil rfl (λi v h=>by simp at h)
 |@cons a k v vs ps hq t ih=>
  intro d h
  cases h with
  |@cons _ u _ d ru rt=>
   cases ru;refine(ih rt).c λm b n y=>?_;refine(I.tuple hq).c λo e z B=>?_;refine(vals2 e).b λc j g A p=>?_;subst g;refine Z1 ((k,j)::m) (.cons ⟨rfl,p⟩ b) (by rw[lC0,lC0,n]) (λi w hw=>?_)
   cases i with
   |zero=>
    cases hw;exact⟨_,rfl,a,c,rfl,z,YF A⟩
   |succ i=>exact y i w hw
theorem Jw(ps):(YH ps).length<=ps.length:=by
 have: ∀(ps as:List (Key×V)),(ps.foldl (λa p=>DM a p.1 p.2) as).length<=↑10+ps.length:=by
  intro ps
  induction ps with
  |nil=>intro as;exact à _
  |cons p ps ih=>
   intro as;rw[List.foldl_cons,lC0];have:=ih (DM as p.1 p.2);have:=ME as p.1 p.2
   lia
 have:=this ps [];rw[ç,Į]at this;exact this
def Cd{K:P0}(r:PairsV K H vs ps):ps.length=vs.length:=by
 induction r with
 |nil=>rfl
 |cons _ _ ih=>rw[lC0,lC0,ih]
theorem Jx:CallR X (.type "dict") (λxs H Q=> ∃l vs ps,xs=[.ref l]/\SqL X.K H l vs/\PairsV X.K H vs ps/\X.calm=true/\ ∀d,H d=none->Q (.ref d) (yQ H d (.dK (YH ps)))):=by intro pins s σ H xs L Q I r h;refine h.p λl vs ps g m j D q=>?_;subst g;refine(vals1 r).a λu R G=>?_;subst R;cases G;refine(I.list m).c λA k T P=>?_;obtain ⟨o,n,C,c,z,a⟩:=T;refine(Pe I j k).c λO p F B=>?_;have M:=k.length;refine JP (I.ok.hd D) C c z a (by rw[sA,F]) (by rw[sA];lia) (λi v e=>B i v (by simpa using e)) λh' N E b=>?_;have y:=Cd j;have J:=Jw ps;refine Z3 (.ref ↑3) _ (I.laid E (à _) (show ObjOk X.prog X.w _ h' _ (.dK (YH ps))from⟨by lia,Ě.mpr (Ne.symm (ê (Bo I))),_,Fa p .nil,b⟩)) rfl (q _ (I.hok.fresh (à _)))
def BK:List MV->Option (List (MV×MV))
 |[]=>some []
 |.tup [k,v]::r=>if HE k=true then(BK r).map ((k,v)::·)else none
 |_::_=>none
def zDC(ps:X0):List (MV×MV):=ps.foldl (λa p=>putK a p.1 p.2) []
theorem MP{K:P0}: ∀{ds}{kvs}{vs},BK ds=some kvs->DenL X.K α H ds vs-> ∃ps,PairsV X.K H vs ps/\DenK X.K α H kvs ps
 |[],kvs,vs,e,l=>by cases e;rw[l.isnil];exact⟨[],.nil,.nil⟩
 |d::ds,kvs,vs,e,l=>by
  refine l.uncons.b λv r g u q=>?_;subst g;unfold BK at e;split at e
  .cases (by assumption:d::ds=[])
  .rename_i k y B j;obtain⟨rfl,rfl⟩:=List.cons.inj j;split at e
   .rename_i n
    cases z:BK ds with
    |none=>rw[z]at e;cases e
    |some ms=>
     rw[z]at e;cases e;refine(MP (K:=K) z q).a λps p1 p2=>?_;refine(wV u).b λa D G hs s=>?_;subst G;refine s.uncons.b λF E I c h=>?_;subst I;refine h.uncons.b λA w J o i=>?_;subst J;have p:=i.isnil;subst p;obtain⟨C,b⟩:=ā.mp n;have m:=Pa b c;subst m;exact Z8 _ (.cons hs p1) (.cons (Wz b) o p2)
   .cases e
  .cases e
theorem HG: ∀{kvs}{ps},DenK X.K α H kvs ps-> ∀{as}{bs},DenK X.K α H as bs->DenK X.K α H (kvs.foldl (λd p=>putK d p.1 p.2) as) (ps.foldl (λd p=>DM d p.1 p.2) bs)
 |_,_,.nil,as,bs,h=>h
 |_,_,.cons hk a l,as,bs,h=>by exact HG l (YA h hk a)
def YI:List Er->Sto->R Er
 |[r],S=>match (cE S r).bind BK with |some kvs=>.ok (.val (.loc S.length)) (S++[.dic (zDC kvs)])|none=>.no
 |_,_=>.no
def Xb:bootBuiltins "dict"=some (.type "dict"):=by decide+kernel
def Xc(s:X.calm=true):qH X W (λxs H Q=> ∃l vs ps,xs=[.ref l]/\SqL X.K H l vs/\PairsV X.K H vs ps/\X.calm=true/\ ∀d,H d=none->Q (.ref d) (yQ H d (.dK (YH ps)))) YI:=by
 intro u vs α S H Q b d a;unfold YI at a;split at a
 .split at a
  .rename_i k e;refine(oV d).a λv g r=>?_;subst g
   cases z:cE S _ with
   |none=>rw[z]at e;cases e
   |some ds=>
    rw[z]at e;refine(vT rfl b z r).b λi n y j l=>?_;subst y;refine(MP (K:=X.K) e l).a λps p1 p2=>?_;refine Y6 i n ps rfl j p1 s (λp c=>?_);have h:=b.newx (o:=.dK (YH ps)) c;obtain⟨x,q⟩:=b.put (m:=.dic _) c (.inl ⟨_,zI,(HG p2 .nil).ex0 ⟨⟨[p],rfl⟩,h.tup,h.frz⟩⟩);exact a _ _ _ x q (DenE.val (pI (by rw[<-b.len,è (à _),sub_self];rfl)))
  .exact a.elim
 .exact a.elim
end
section
variable{apos pos:Pos}{α:B9}{H:Hp}{σ:St}
def Fc(b ps:List (Key×V)):List (Key×V):=ps.foldl (λa p=>DM a p.1 p.2) b
theorem RN: ∀ ps d ,(Fc d ps).length<=d.length+ps.length
 |[],d=>à _
 |p::ps,d=>by
  have m:=RN ps (DM d p.1 p.2);have a:=ME d p.1 p.2;show(Fc (DM d p.1 p.2) ps).length<=_;rw[lC0]
  lia
def A4(X:Cx):V->List V->Hp->VK->Prop:=λx b H Q=> ∃(a ps:List (Key×V))(d p:Addr),x=.ref d/\b=[.ref p]/\d≠p/\DK X H d a/\DK X H p ps/\a.length+ps.length<2000000/\Q .non (yQ H d (.dK (Fc a ps)))
theorem Xd:M7 X "dict.update" (A4 X):=by
 intro pins s σ H x n v N Q I K L h;refine h.i λr ps d p g=>g.t λR U m e A T q=>?_;subst R;subst U;refine(vals1 L).a λS V G=>?_;subst V;cases K;cases G;obtain⟨z,hs,n,o,E⟩:=lW I e;obtain⟨M,i,k,a,j⟩:=lW I A;have P:=Paired.length o;have C:=Paired.length a;have u:=ô
 refine call_meetsIn PySem.F.slot_dict_update ((Ox pins s σ H (.ref d) _ I rfl (Z0 d r rfl e)).1) PySem.F.entry_dict_update (PySem.F.args_dict_update_2 _ _) (meets_dict_update _ d p m i)
  (ZB n k E j (by rw[u];lia) (λh' w _ B=>?_))
 have J:=RN ps r;refine Z3 .non (yQ H d _) ?_ rfl q;exact I.write (Cb e) (.inl rfl) (λb O c D=>(B.2 b c).trans D) (let ⟨q,_,_,y,_⟩:=w;⟨q,y⟩) ⟨by rw[u];lia,hs,_,Fa a o,w⟩
def Fe(kvs ps:X0):List (MV×MV):=ps.foldl (λa p=>putK a p.1 p.2) kvs
def RO(p:Er)(rs:List Er)(S:Sto):R Er:=match rs with
 |[r]=>match JO S p with
  |some (l,kvs)=>match JO S r with
   |some (m,ps)=>if l≠m/\kvs.length+ps.length<1000000 then .ok (.val .non) (S.set l (.dic (Fe kvs ps)))else .no
   |none=>.no
  |none=>.no
 |_=>.no
theorem Xe:Ba X W (A4 X) RO:=by
 intro p M x I α S K H Q v h y w D a;unfold RO at a;split at a
 .rename_i r;split at a
  .rename_i l F A;split at a
   .rename_i m ps G;split at a
    .rename_i C
     cases D with
     |cons dv n1 l1=>
     cases l1;refine(A3 h A w).j λc s g=>g.f λP j L b q _=>?_;subst P;refine(A3 h G dv.1).j λn d O=>O.f λR E B e i _=>?_;subst R;have k:c≠n:=λz=>C.1 (by subst z;exact(List.getElem?_inj (gS.mp j).1 h.nd).mp (j.trans E.symm));have J:=DenK.length q;have N:=DenK.length i;refine Y4 s d c n ⟨rfl,rfl,k,b,e,(by lia),?_⟩;have u:=h.writex j b.nf (o:=.dK (Fc s d));exact(Post.shift (y.trans u) a).val (h.write j b.nf (.inl ⟨_,zI,(HG i q).ex0 u.toEx0⟩)) pH
    .exact a.elim
   .exact a.elim
  .exact a.elim
 .exact a.elim
def Xf(ho:zR X W o f)(i:IM X W (e::es) af)
  (hbase:attributeBase o "update" X.env (eval o X.env)=eval o X.env:=by rfl)
  (hfew:((backTo pos (starEach (e::es) X.env)).all (λx=>!x.1)&&(backToKw pos (keywordEach [] X.env)).all (λx=>x.1.isSome)
   &&decide ↑9)=true:=by rfl)
  (hline:(apos.endLine==pos.line)=true:=by rfl) (hs:q8 X e es:=by rfl) (hplain:q9 X pos es:=by rfl):
  zR X W (.Call (.Attribute o "update" apos) (e::es) [] pos) (λρ S=>(f ρ S).bind λp S1=>if Xa p S1=true then(af ρ S1).bind λrs d=>RO p rs d else .no):=by
 refine ho.a λJ ho y=>?_;refine i.a λt i k=>?_;refine Z8 _ (V1 Ox PySem.F.plainAttrs_dict PySem.F.slot_dict_update PySem.F.type_dict_update Xd ho i hbase hfew hline hs hplain) (λα ρ S σ H Q D sl q=>y α ρ S σ H _ D sl (q.bind λu p S1 a v I s m n h=>?_));split at h
 .rename_i j;obtain⟨⟨l,E⟩,j⟩:=ā.mp j;refine(A3 m j n.1).j λc xs g=>g.h λL _ _ A _=>?_;subst L;exact⟨(Z0 c xs rfl A),k a ρ S1 σ v _ m (sl.ext s) ((h.shift s).bind λz rs d b w K r C G B=>Xe p rs _ z b d v w Q a C r (n.1.ext r) G B)⟩
 .exact h.elim
end
section
open Classical in
def YJ(n:Nat)(p q:Er)(S:Sto):R Er:=match p with
 |.val k=>match q with
  |.val d=>if HE k=true/\S[n]? =some (.dic [])then .ok (.val (.loc n)) (S.set n (.dic [(k,d)]))else .no
  |_=>.no
 |_=>.no
def Pf(J:zR X W a f)(B:zR X W b g):zR X W (.Dict [some a] [b] pos) (λρ S=>(f ρ (S++[.dic []])).bind λp S1=>(g ρ S1).bind λq Z=>YJ ↑0 p q Z):=by
 refine J.a λta J fa=>?_;refine B.a λtb B fb=>?_;refine⟨λσ H Q=> ∀p,H p=none->ta σ (yQ H p (.dK [])) λv D=>tb σ D λu y=> ∃k,v=kV k/\DK X y p []/\Q (.ref p) (yQ y p (.dK [(k,u)])),λpins s σ H Q I h=>?_,λα ρ S σ H Q wd sl q p hp=>?_⟩
 .have I0:=I.laid (a:=↑3) (o:=.dK []) (t':=s.toks) (h':=s.heap.push {cls:=.type "dict",data:=.dict #[]}) (λ_ _ q=>hP0 _ q) (à _)
   ⟨zero_le _,Ě.mpr (Ne.symm (ê (Bo I))),[],.nil,Heap.DictOf.new s.heap⟩
  refine wpAny_Dict_pairs (knd:=kD X.prog X.w) (pairs:=[(eval a X.env,do let x <-eval b X.env;standAt pos;pure x)]) rfl (by simp) (by simp) ?_;refine evalPairs_cons (ò (J _ _ _ _ _ I0 (h _ (I.hok.fresh (à _)))) (λkv s1 E=>?_) λ_ _ e=>e);refine E.b λv D I1 r1 t1=>?_;refine wB (ò (B _ _ _ _ _ I1 t1) (λvv s2 L=>?_) λ_ _ e=>e);obtain⟨u,y,I2,r2,k,rfl,n,q⟩:=L;refine wB (đ (wP (evalPairs_nil ?_)));obtain⟨z,hs,U,G,dm⟩:=lW I2 n;have hl:([]:List (Key×V)).length=U.length:=Paired.length G;have O:U=[]:=List.length_eq_zero_iff.mp hl.symm;subst O;refine Z1 ([(k,vv)]) ⟨YF (X:=X) r1,rfl,trivial⟩ dm (λh' A M=>(Z3 (.ref _) _ ?_ rfl q));have he: ∃q,h'.get? ↑3=some q:=let ⟨q,_,_,hq,_⟩:=A;⟨q,hq⟩;exact I2.write (t':=_) (x:=↑3) (e:=↑3) (Cb n) (.inl rfl) (λb uo B eo=>(M.2 b B).trans eo) he ⟨by rw[ô];simp,hs,_,.cons ⟨rfl,r2⟩ .nil,A⟩
 .obtain⟨x,w'⟩:=wd.put (ho:=.dK []) (m:=.dic []) hp (.inl ⟨[],zI,.nil⟩);refine fa (α++[p]) ρ (S++[.dic []]) σ _ _ w' (sl.ext x) ((q.shift x).bind λv r S1 F D e1 N w1 d1 q1=>?_);refine fb F ρ S1 σ D _ w1 (sl.ext (x.trans N)) ((q1.shift N).bind λu r2 Z j y e2 T P d2 i=>?_);unfold YJ at i;split at i
  .rename_i k;split at i
   .rename_i d;split at i
    .rename_i hk;obtain⟨Y,C⟩:=ā.mp hk.1;have dk:Den X.K j y k v:=d1.1.ext T;have ek:=Pa (X:=X) (α:=j) (H:=y) C dk;subst ek;have c:j[↑0]? =some p:=by obtain⟨t1,E⟩:=N.pre;obtain⟨t2,L⟩:=T.pre;rw[L,E,aA,aA, <-wd.len,è (à _),sub_self];rfl
     refine(A2 (P.obj _ p _ c hk.2) rfl).a λks n dl=>?_;cases dl;refine Z1 Y rfl n ?_;have xw:=P.writex c n.nf (o:=.dK [(Y,u)]);exact(Post.shift (T.trans xw) i).val (P.write c n.nf (.inl ⟨_,zI,.cons (Wz C) (d2.1.ext xw) .nil⟩)) (pI (by rw[c]))
    .exact i.elim
   .exact i.elim
  .exact i.elim
end
section
theorem Jy:CallR X (.builtin "len") (λxs H Q=> ∃d m,xs=[.ref d]/\DK X H d m/\Q (.int m.length) H):=by intro pins s σ H a p Q I i h;refine h.b λd m g e q=>?_;subst g;refine(vals1 i).a λn r c=>?_;subst r;cases c;obtain⟨z,hs,a,b,j⟩:=lW I e;have k:=Paired.length b;have o:=ô;refine PySem.call_len_dict hs j #[0] (Z3 (.int m.length) H ((I.tok _).tok _) (by rw[k];exact⟨_,rfl⟩) q)
def RP:List Er->Sto->R Er
 |[r],S=>match JO S r with
  |some (_,kvs)=>.ok (.val (.int kvs.length)) S
  |none=>.no
 |_,_=>.no
def Xg:qH X W (λxs H Q=> ∃d m,xs=[.ref d]/\DK X H d m/\Q (.int m.length) H) RP:=by
 intro r p α S H Q h d a;unfold RP at a;split at a
 .split at a
  .rename_i l j e;refine(oV d).a λv u k=>?_;subst u;refine(A3 h e k).j λc m g=>g.f λy o q b i _=>?_;subst y;have n:=DenK.length i;refine Z3 c m rfl b ?_;rw[n];exact Post.val a h (yU _)
  .exact a.elim
 .exact a.elim
def d1J(f g:AX)(ρ:Rho)(S:Sto):R Er:=(f ρ (S++[.dic []])).bind λp a=>(g ρ a).bind λq b=>YJ ↑0 p q b
end
noncomputable def Ce(x:Db):List (List Nat)->List (List Nat)
 |[]=>[x]
 |y::r=>if y<x then y::Ce x r else x::y::r
def DU(ns:Ch):List (List Nat):=ns.foldr Ce []
theorem HI(x): ∀l,(Ce x l).Perm (x::l)
 |[]=>.refl _
 |y::r=>by
  unfold Ce;split
  .exact((HI x r).cons y).trans (.swap _ _ _)
  .exact .refl _
theorem vA: ∀ns,(DU ns).Perm ns
 |[]=>.refl _
 |x::r=>(HI x _).trans ((vA r).cons x)
theorem MQ(x): ∀l:List (List Nat),l.Pairwise (λa b=> ¬b<a)->(Ce x l).Pairwise (λa b=> ¬b<a)
 |[],_=>by simp[Ce]
 |y::r,h=>by
  obtain⟨m,q⟩:=Ķ.mp h;unfold Ce;split
  .rename_i c;refine Ķ.mpr ⟨λz d=>?_,MQ x r q⟩;rcases mC.mp ((HI x r).mem_iff.mp d)with rfl|d
   .exact List.lt_asymm c
   .exact m z d
  .rename_i c;refine Ķ.mpr ⟨λz d=>?_,h⟩;rcases mC.mp d with rfl|d
   .exact c
   .exact List.not_lt.mpr (List.le_trans (List.not_lt.mp c) (List.not_lt.mp (m z d)))
theorem IV: ∀ns,(DU ns).Pairwise (λa b=> ¬b<a)
 |[]=>.nil
 |x::r=>MQ x _ (IV r)
def Pg(c:ns'.Perm ns)(hs:ns'.Pairwise (λa b=> ¬b<a)):ns'=DU ns:=
 List.Perm.eq_of_pairwise (λ_ _ _ _ a b=>List.le_antisymm (List.not_lt.mp a) (List.not_lt.mp b)) hs (IV ns) (c.trans (vA ns).symm)
theorem RQ: ∀ l  p ,risingS p l=true->(p::l).Pairwise (λa b=> ¬b.cps.toList<a.cps.toList)
 |[],p,_=>by simp
 |x::r,p,h=>by
  have h:(!ltCps x.cps.toList p.cps.toList&&risingS x r)=true:=h;rw[aE,Bool.not_eq_true',ltCps_eq,decide_eq_false_iff_not]at h;have d:=RQ r x h.2;refine Ķ.mpr ⟨λz c=>?_,d⟩;rcases mC.mp c with rfl|c
  .exact h.1
  .exact List.not_lt.mpr (List.le_trans (List.not_lt.mp h.1) (List.not_lt.mp ((Ķ.mp d).1 z c)))
def Ka: ∀ l ,sortedS l=true->l.Pairwise (λa b=> ¬b.cps.toList<a.cps.toList)
 |[],_=>.nil
 |x::r,h=>RQ r x h
def YK(e:ss.Perm (zs.map kX))(hs:sortedS ss=true):ss=(DU zs).map kX:=by
 have d:(ss.map λx=>x.cps.toList).Perm zs:=by have:=e.map λx:Str=>x.cps.toList;rw[ď,show((λx:Str=>x.cps.toList)∘kX)=id from funext JZ,List.map_id]at this;exact this
 have c:(ss.map λx=>x.cps.toList).Pairwise (λa b=> ¬b<a):=pairwise_map.mpr (Ka ss hs);rw[<-Pg d c,ď,show(kX∘λx:Str=>x.cps.toList)=id from funext (λx=>by unfold kX;simp),List.map_id]
section
def YL(K:PySem.W.KdlSrc prog w "dict" r d n P OK)(F:A.handled=none)(i:OK s.heap)(B:n<64)(I: ∀q:Array Ł,ItemsOf P q n->StrsAre q.toList ss)
  (h: ∀(h':Heap) v  out  u ,↑49->StrsAre out.toList u->u.Perm ss->sortedS u=true-> ∀ vs ,Q (.ref h'.objs.size) {s with heap:=sortedHeap (h'.push (seqObj "list" vs.toArray 0)) h'.objs.size vs out,toks:=v}):
  wpAny ↑7 A (call (.builtin "sorted") [.ref r]) Q E s:=by
 refine Calls.call_function_entry kind_sorted plain_sorted entry_sorted (args_sorted1 _) ?_;unfold Builtin.«sorted»;refine wB (m:=checkCount "sorted" 1 1 _) (wP ?_);refine wB (PySem.W.kdu_collect (A:=A.in1) K F i (by rw[ô];omega) λh' v q G a=>?_);have y:q.toList.length=n:=by rw[ü];exact a.1
 refine wB (wpAny_newList ?_ (by rw[y,ô];omega));have c:(h'.push (seqObj "list" q.toList.toArray 0)).get? h'.objs.size=some (seqObj "list" q.toList.toArray 0):=ä _ rfl;show wpAny _ _ _ _ _ {s with heap:=h'.push (seqObj "list" q.toList.toArray 0),toks:=v};have j:=I q a;refine wB (ö (Ă slot_list_sort (Z8 _ c rfl) entry_list_sort (list_sort_treeK strKind_oneLt c j.keysOf (λp k rest e=>keyKind_strs (by rw[<-e];exact j)) (by rw[y];exact B) λz D hs=>(Z8 _ rfl ?_)) (args_list_sort _)));refine(sorted_out_str j D hs).c λu C H J=>?_;refine wP (Z8 _ rfl (h h' v _ u G C H J q.toList))
end
section
variable{W:XW}
theorem YM: ∀ l ,StrsAre (strValues l) (l.map (·.1))
 |[]=>.nil
 |(x,t)::l=>.cons x t (YM l)
theorem RR: ∀{m}{d:Ch},StrsAre m (d.map kX)->Vals (d.map λz=>V.str (kX z)) m
 |_,[],h=>by cases h;exact .nil
 |_,z::d,h=>by
  cases h with
  |cons y t h=>exact .cons ⟨t,rfl⟩ (RR h)
theorem YN: ∀{ds}{ns},oA ds=some ns->ns.length=↑12
 |[],ns,h=>by cases h;rfl
 |x::ds,ns,hi=>by
  cases x<;>first |(cases hi;done)|skip
  unfold oA at hi
  cases d:oA ds with
  |none=>rw[d]at hi;cases hi
  |some ms=>rw[d]at hi;cases hi;rw[lC0,lC0,YN d]
def Cf:CallR X (.builtin "sorted") (λxs H Q=> ∃d B ds ns α,xs=[.ref d]/\DK X H d B/\oA ds=some ns/\DenL X.K α H ds (B.map λp=>kV p.1)/\↑12<64/\X.calm=true/\ ∀p,H p=none->Q (.ref p) (yQ H p (.lst ((DU ns).map λz=>V.str (kX z))))):=by
 intro pins s σ H xs y Q I r h;obtain⟨d,B,ds,ns,α,rfl,L,hi,k,hz,U,q⟩:=h;refine(vals1 r).a λu g rx=>?_;subst g;cases rx;obtain⟨z,N,vs,m,T⟩:=lW I L;obtain⟨ep,A⟩:=T.dictAt;have hl:↑16=vs.length:=Paired.length m;have i:↑47<64:=by have:=k.length;rw[lM0]at this;omega
 refine YL (PySem.W.kdl_dict (knd:=kD X.prog X.w) (kvs:=vs) (ep:=ep) N) (I.ok.hd U) A i (ss:=ns.map kX) (λO c=>by refine(Ez hi k (Jv (X:=X) m (by rw[ü];exact c.1) λj v e=>c.2 j v (by rw[<-û];exact e))).a λl P F=>?_;rw[P, <-F];exact YM l) λh' D out aa Z M S Y y=>?_;have J:=YK S Y;subst J;have I1:Inv X pins σ H {s with heap:=h',toks:=D}:=I.kept Z;obtain⟨e,G⟩:=sortedHeap_at (h:=h'.push (seqObj "list" y.toArray 0)) (a:=h'.objs.size) (vs:=y) (n:=0) (out:=out) (ä _ rfl);refine Z3 (.ref h'.objs.size) _ (I1.laid (t':=D) (λb o E=>?_) (à _) (show ObjOk X.prog X.w _ _ _ (.lst ((DU ns).map λz=>V.str (kX z)))from⟨?_,out.toList,e,RR M,?_⟩)) rfl (q _ (I1.hok.fresh (à _)))
 .have C:=ã E;rw[sortedHeap_old (ê C) (by rw[size_push'];exact Nat.lt_succ_of_lt C)];exact hP0 _ E
 .have F:=(vA ns).length_eq;have e3:=YN hi;have:=ô;rw[lM0];omega
 .rw[Array.toArray_toList];exact G
def MR(rs:List Er)(S:Sto):R Er:=match rs with
 |[p]=>match JO S p with
  |some (_,kvs)=>if kvs.length<64 then(match oA (kvs.map (·.1))with |some ns=>.ok (.new ((DU ns).map MV.str)) S|none=>.no)else .no
  |none=>.no
 |_=>.no
def Ph(r:X.calm=true):qH X W (λxs H Q=> ∃d m ds ns α,xs=[.ref d]/\DK X H d m/\oA ds=some ns/\DenL X.K α H ds (m.map λp=>kV p.1)/\↑12<64/\X.calm=true/\ ∀p,H p=none->Q (.ref p) (yQ H p (.lst ((DU ns).map λz=>V.str (kX z))))) MR:=by
 intro y u α S H Q b d a;unfold MR at a;split at a
 .split at a
  .rename_i n k e;split at a
   .rename_i o;split at a
    .rename_i ns hi;refine(oV d).a λv A q=>?_;subst A;refine(A3 b e q).j λc m g=>g.f λB s w i j _=>?_;subst B;exact Y2 c m _ ns (α) ⟨rfl,i,hi,HC j,(by rw[lM0];exact o),r,(λp h=>Post.newl a b h (RJ _))⟩
    .exact a.elim
   .exact a.elim
  .exact a.elim
 .exact a.elim
end
section
variable{a:Expr}{pos apos:Pos}
def A5:V->List V->Hp->VK->Prop:=λx a H Q=> ∃l xs y,x=.ref l/\a=[]/\H l=some (.lst xs)/\xs[↑8 - 1]? =some y/\Q y (yQ H l (.lst (xs.eraseIdx (↑8 - 1))))
noncomputable def MS(p:Er)(rs:List Er)(S:Sto):R Er:=match p,rs with
 |.val (.loc l),[]=>match S[l]? with
  |some (.lst ds)=>match ds[ds.length - 1]? with
   |some d=>.ok (.val d) (S.set l (.lst (ds.eraseIdx (ds.length - 1))))
   |none=>.no
  |_=>.no
 |_,_=>.no
def Xi:Ba X W A5 MS:=by
 intro p E x C α S D H Q n k s q v b;unfold MS at b;split at b
 .rename_i l;refine(aG q).a λa g h=>?_;subst g;cases v;refine(k.of h).a λz r w=>?_;rw[r]at b
  cases z with
  |lst ds=>
   refine w.a λe m j=>?_;dsimp only at b;split at b
   .rename_i d u;refine(j.at u).a λy A B=>?_;have c:e.length=ds.length:=j.length;have i:=k.writex h (Zp m) (o:=.lst (e.eraseIdx (e.length - 1)));refine Y6 a e y rfl rfl m (by rw[c];exact A) ?_;exact(b.shift (s.trans i)).val (k.write h (Zp m) (Z8 _ zI (by rw[c];rw[c]at i;exact(j.eraseIdx (↑12 - 1)).ext i))) (B.ext i)
   .exact b.elim
  |dic _=>exact b.elim
  |ins _ _=>exact b.elim
  |rcd _ _=>exact b.elim
  |fdc _=>exact b.elim
 .exact b.elim
def Xj(ho:zR X W a f)(c:attributeBase a "pop" X.env (eval a X.env)=eval a X.env:=by rfl)(d:(apos.endLine==pos.line)=true:=by rfl):
  zR X W (.Call (.Attribute a "pop" apos) [] [] pos) (λρ S=>(f ρ S).bind λp S1=>if kH p S1=true then MS p [] S1 else .no):=
 XD PySem.F.plainAttrs_list PySem.F.slot_list_pop PySem.F.type_list_pop (by
   intro pins s σ H x B v C Q I u A h;refine h.p λl xs y g D k o q=>?_;subst g;subst D;cases u;have i:=A.zero;subst i;obtain⟨z,b,n,r,m,e⟩:=I.lstM k;refine(r.get o).a λw hw j=>?_
   refine call_meets F.slot_list_pop ⟨_,e,rfl⟩ F.entry_list_pop (F.args_list_pop_1 _)
    (MeetsSeq.list_pop_last l b.toArray n w (by rw[sA, <-m, <-û];exact hw) (by rw[sA];omega)) ⟨e,?_⟩
   refine Z3 y _ (I.lset (its':=b.eraseIdx (↑8 - 1)) k e ?_ (r.eraseIdx (↑8 - 1)) ?_) j q
   .show b.toArray.eraseIdxIfInBounds (b.toArray.size - 1)=(b.eraseIdx (↑8 - 1)).toArray;rw[List.eraseIdxIfInBounds_toArray,sA,m]
   .have:=QE xs (↑8 - 1);omega) Xi UB ho c d
end
section
variable{p1 p2 pos1 pos2:Pos}
noncomputable def valZ(ys:Za)(i:Nat):Key:=.inl (ys.getD i 0)
def Ff(ys:Za):Nat:=(rF (valZ ys) ys.length).length
def W6(P:ł)(w:World)(l:Addr)(ys:Za):HO:=.ext λh=>KSet P w h l (valZ ys) ys.length
theorem Fg: ∀{ys}{d},Vals (ys.map V.int) d->d.length=ys.length/\ ∀ i  v ,d[i]? =some v->StrAt (valZ ys) i v
 |[],d,r=>by cases r;exact⟨rfl,λi v h=>by simp at h⟩
 |y::ys,d,r=>by
  cases r with
  |cons r1 r2=>
   obtain⟨t,rfl⟩:=r1;obtain⟨a,b⟩:=Fg r2;refine⟨by rw[lC0,lC0,a],λi v h=>?_⟩
   cases i with
   |zero=>
    simp at h;exact .inr (Z0 y t rfl h.symm)
   |succ i=>exact b i v (by simpa using h)
def Kb:CallR X (.type "set") (λxs H Q=> ∃a ys,xs=[.ref a]/\SqL X.K H a (ys.map V.int)/\ys.length<4000/\X.calm=true/\ ∀l,H l=none->Q (.ref l) (yQ H l (W6 X.prog X.w l ys))):=by
 intro pins s σ H xs J Q I r h;refine h.j λa ys g=>g.h λP k L D q=>?_;subst P;refine(vals1 r).a λu R F=>?_;subst R;cases F;have e: ∀(h':Heap)(c:Nat)(n:Nat),n=ys.length->KSet X.prog X.w h' ↑3 (valZ ys) n->↑49->EP X pins σ Q (.ref ↑3) {s with heap:=h',toks:=c}:=by intro h' c n m hs j;subst m;refine Z3 (.ref ↑3) _ (I.laid (o:=W6 X.prog X.w ↑3 ys) (t':=c) j (à _) ⟨hs,?_,λG M z y=>z.move y⟩) rfl (q _ (I.hok.fresh (à _)));refine hs.i λo _ _ _ O=>O.elim λC _=>?_;exact⟨o,C⟩
 refine(I.list k).c λd A p N=>?_;obtain⟨B,E⟩:=Fg A;have sz:d.toArray.size=ys.length:=by rw[sA];exact B
 exact (UI (I.ok.hd D) (.inl (p.isList)) (λi v h=>E i v (by simpa using h)) (by rw[sz];unfold scanBound;omega) (λh' c hs j=>e h' c _ sz hs j))
theorem RT{K:P0}: ∀{ds}{ys}{vs},intsOf ds=some ys->DenL K α H ds vs->vs=ys.map V.int
 |[],ys,vs,h,d=>by cases h;rw[d.isnil];rfl
 |x::ds,ys,vs,h,d=>by
  refine d.uncons.b λv r a m l=>?_;subst a
  cases x with
  |int x=>
   unfold intsOf at h
   cases z:intsOf ds with
   |none=>rw[z]at h;cases h
   |some zs=>
    rw[z]at h;cases h;rw[æ,xI m,RT z l]
  |_=>cases h
def MT(rs:List Er)(S:Sto):R Er:=match rs with
 |[r]=>match cE S r with
  |some ds=>match intsOf ds with
   |some ys=>if ys.length<4000 then .ok (.val (.int (Ff ys:Nat))) S else .no
   |none=>.no
  |none=>.no
 |_=>.no
def Pi(O:X.calm=true)(J:Gl X "len")(hm:X.mg "len"=none)(i:Gl X "set")(p:X.mg "set"=none)(m:IM X W [e] af)
  (he:starEach [e] X.env=(false,eval e X.env)::starEach [] X.env:=by rfl) (hpl:(backTo pos2 (starEach [] X.env)).any (·.1)=false:=by rfl)
  (he1:starEach [.Call (.Name "set" p2) [e] [] pos2] X.env=(false,eval (.Call (.Name "set" p2) [e] [] pos2) X.env)::starEach [] X.env:=by rfl) (hpl1:(backTo pos1 (starEach [] X.env)).any (·.1)=false:=by rfl):
  zR X W (.Call (.Name "len" p1) [.Call (.Name "set" p2) [e] [] pos2] [] pos1) (λρ S=>(af ρ S).bind MT):=by
 refine m.a λt m k=>?_;refine(Z8 _ (FB (show CallR X (.builtin "len") (λxs H Q=> ∃l b,xs=[.ref l]/\b.length<4000/\H l=some (W6 X.prog X.w l b)/\Q (.int (Ff b)) H) by
   intro pins s σ H xs M Q I r h;refine h.g λl b R n c q=>?_;subst R;refine(vals1 r).a λu V rx=>?_;subst V;cases rx;obtain⟨hs,_⟩:=(I.hok l _ c)
   refine hs.i λo es ep t g=>g.w λN v K Y A C D Z=>?_;have j:Ff b=es.size:=Z.symm;rw[j]at q;have E:es.size<4096:=C;exact call_len_set N v K D #[0] (Z3 (.int _) H (I.tok _) ⟨_,rfl⟩ q)) J hm mX (gU (CQ Kb i p ↑21 m ↑4 ↑4 he hpl) sP he1) ↑4 ↑4 he1 hpl1) (λα ρ S σ H Q P sl q=>k α ρ S σ H _ P sl (q.bind λvs rs S1 F H1 y x1 d B a=>?_)))
 replace a:=a.shift x1
 unfold MT at a;split at a
 .rename_i r;split at a
  .rename_i ds y;split at a
   .rename_i b T;split at a
    .rename_i n;refine(QQ B).a λu ac L=>?_;subst ac;refine(vT rfl d y L).b λU M ad z G=>?_;subst ad;rw[RT T G]at z;exact YD U b rfl z n O (λl c=>(ZB l b rfl n zI ((a.shift (d.newx c)).val (d.new c) (yU _))))
    .exact a.elim
   .exact a.elim
  .exact a.elim
 .exact a.elim
end
section
variable{K:Type}[DecidableEq K]
def TSet(knd:KeyKind prog w K)(h:Heap)(a:Addr)(S:K->Bool)(n:Nat)(b:Bool):Prop:=
 ∃o es c t,h.get? a=some o/\o.ExactSet/\o.data=.set es c t/\ElemsOf knd es.toList/\(∀k,S k=true↔ ∃e∈es.toList,knd.is k e.2=true)
  /\es.size<scanBound/\t.fits es.size=true/\es.size=n/\t.led=b/\(es.size=0\/t.plain=false)/\(es.toList.map (·.2)).Pairwise (λx y=> ∀k,knd.is k x=true-> ¬knd.is k y=true)
end
noncomputable abbrev byT(w:World):Bool:=w.params.followText "set-order"
abbrev zDD(P:Program)(w:World)(h:Heap)(D:Addr)(val:Nat->Key)(i:Nat):Prop:=TSet (kD P w) h D (λk=>Lf k (rF val i)) (rF val i).length (!byT w)
def StrT(val:Nat->Key)(i:Nat)(v:Ł):Prop:= ∃x t,val i=.inr x/\v=.str x t
def StrT.is(h:StrT val i v):(kD P w).is (val i) v=true/\v.scannable=true/\plainKind v=false:=by refine h.d λx t e a=>?_;subst a;rw[e];exact⟨AT P w x t,rfl,rfl⟩
def SetAt(h:Heap)(D:Addr)(es:Array (Int×Ł))(ep:Nat)(t:SetTable):Prop:= ∃o,h.get? D=some o/\o.ExactSet/\o.data=.set es ep t/\t.fits es.size=true
def SetAt.keep(x:SetAt h D es ep t)(m: ∀o,h.get? D=some o->h'.get? D=some o):SetAt h' D es ep t:=by refine x.a λo a r=>?_;exact Z8 o (m o a) r
end M
end L2
namespace L2
open PySem PySem.Spec PyProof.Rows
namespace M
def setT(P:ł)(w:World)(l:Addr)(ys:Ch):HO:=.ext λh=>zDD P w h l (valY ys) ys.length
end M
end L2
namespace L2
open PySem PySem.Spec PyProof.Rows
def OV:entryFor table "proto.unchain"=some Builtin.«proto.unchain»:=entryFor_of_tree (by kernel_rfl)
section
variable{E:VP}{s:ŀ}
def Cg{step:Int}(r:A.handled=some (.ref e))(n:s.heap.get? e=some ob)(hd:ob.data=.fields vs)(B:vs[2]? =some .none)
  (hit:IsRangeIter s.heap it x left step) (hleft:left<=0) (hQ: ∀h',Heap.ExtBut it s.heap h'->Q none {s with heap:=h'}):wpAny ↑7 A (pyNext (.ref it)) Q E s:=by
 have p:s.TypeIs (.ref it) "range_iterator":=⟨_,hit,rfl⟩
 unfold pyNext
 refine wB (wpAny_attempt (Ċ (name:=Str.ofString "__next__") p F.slot_range_iterator_next
  (Ă F.slot_range_iterator_next p F.entry_range_iterator_next ?_ (F.args_range_iterator_next_1 _))))
 show wpAny _ _ (field (.ref it) 0 >>= _) _ _ s;refine wB (ù hit rfl (x:=rawInt x) rfl ?_);show wpAny _ _ (field (.ref it) 1 >>= _) _ _ s;refine wB (ù hit rfl (x:=rawInt left) rfl ?_);show wpAny _ _ (field (.ref it) 2 >>= _) _ _ s;refine wB (ù hit rfl (x:=rawInt step) rfl ?_);show wpAny _ _ (if left<=0 then _ else _) _ _ s;rw[iP hleft];refine wB (wpAny_rule ?_);refine wB ?_;show wpAny _ _ (newExc (.type "StopIteration") [] >>= _) _ _ _;refine wB ?_;simp only[newExc,newTuple];refine wB (ę ?_ (by size_fits));refine wB (m:=firstArgMember _ _) (wpAny_of_eq (a:=Value.none) (by first |rfl|(simp only[firstArgMember];rfl)) ?_);refine ę ?_ (by size_fits);simp only[raiseNew];refine wB (wpAny_handled ?_)
 first |rw[show A.in1.handled=some (.ref e)from r]|rw[r]
 generalize c:s.heap.push {cls:=Value.type "tuple",data:=Data.seq #[]}=h1;generalize i:h1.push {cls:=Value.type "StopIteration",data:=Data.fields (#[Value.ref ↑3,Value.none,Value.none,Value.none,Value.bool false,Value.none]++ownMembersOf (Value.type "StopIteration") [])}=h3;have H:Heap.ExtBut it s.heap h3:=by rw[<-i, <-c];exact((Heap.ExtBut.refl it s.heap).push _).push _
 have D:h3.get? e=some ob:=by rw[<-i];exact hP0 _ (by rw[<-c];exact hP0 _ n)
 have d: ∃o j,h3.get? h1.objs.size=some o/\o.cls=.type "StopIteration"/\o.data=.fields j/\2<j.size:=by rw[<-i];exact ZB _ _ (ä _ rfl) rfl rfl (by simp;omega)
 refine d.g λI j d v u G=>?_;have C:it<h1.objs.size:=by rw[<-c];exact ã (hP0 _ hit)
 have k:e<h1.objs.size:=by rw[<-c];exact ã (hP0 _ n)
 show wpAny _ _ (if(Value.ref e !=Value.ref h1.objs.size)=true then _ else _) _ _ _;rw[iP (by simpa using ê k)];refine wB (ö (wpAny_runValue (Ĥ OV ?_)));show wpAny _ _ (field (.ref e) 2 >>= _) _ _ _;refine wB (ù D hd B ?_);refine wP ?_;refine wB (?_:wpAny _ _ (setField (.ref h1.objs.size) 2 (.ref e)) _ _ _);refine wpAny_setField d u G (wpAny_throw ?_);have h:=ē u (·.setIfInBounds 2 (Value.ref e));have y:=Ć (Obj.mapFields (·.setIfInBounds 2 (Value.ref e))) d (ģ h);refine wB (wpAny_isInstance (T:="StopIteration") (b:=true) (Z8 _ y ((Obj.cls_mapFields _ _).trans v)) isSubtype_stop ?_);exact wP (hQ _ λb o z q=>(ó _ _ (ċ (é (ã q) (by rw[<-c,Ē];exact le_succ _)))).trans (H b o z q))
variable{K:P0}{X:Cx}
def YO(it)(lo)(n):TurnC Wh P w K tg (Zk lo n) [it] it (λi h=>IsRangeIter h it (lo+ i  * 1) ( n  -  i ) 1):=by
 have t:=KR (P:=P) (w:=w) (K:=K) (tg:=tg) it lo n;refine⟨t.mem,t.obj,t.keep,?_,?_,t.self⟩
 .intro X z hw m A i pins s σ H E I d st p;subst z hw m;refine(d it (by simp)).f λq y N v r k=>?_;refine wpAny_pyNext_range_item st (by have:i<n:=p;omega) λh' j M=>?_;have I1:Inv X pins σ H {s with heap:=h',toks:=s.toks+1}:=I.turned (λb o a e=>(M.2 b a).trans e) q y v r k
  have c:IsRangeIter h' it (lo+((i+1:Nat):Int) * 1) ((n:Int) - ((i+1:Nat):Int)) 1:=by
   have D:lo+((i+1:Nat):Int) * 1=lo+(i:Int) * 1+1:=by omega
   have J:(n:Int) - ((i+1:Nat):Int)=(n:Int) - (i:Int) - 1:=by omega
   rw[D,J];exact j
  refine Z8 _ rfl (PP (s:={s with heap:=h',toks:=s.toks+1}) (n:="range_iterator") c rfl rfl ↑4 (YD (.int (lo+i)) H I1 ⟨s.toks,?_⟩ ⟨rfl,rfl⟩ c (λb a=>(d b a).1)));rw[Int.mul_one]
 .intro X z hw m A i pins s σ H E I d st p;subst z hw m;refine(d it (by simp)).f λq y N v r k=>?_;obtain⟨e,Q,u,B,G,O,C,F⟩:=HdA.now A I;exact Cg B (I.hok e _ G).1 C F st (by have:n<=i:=p;omega) λh' L=>⟨rfl,I.turned (t':=s.toks) (λb o a e=>L b o a e) q y v r k⟩
end
namespace M
section
variable{X:Cx}{W:XW}{tg iter:Expr}{pos:Pos}
def Ci(e:Gl X "range")(b:X.mg "range"=none)(d:IM X W [a] af)(hs:starEach [a] X.env=[(false,eval a X.env)]:=by rfl):Jd X W (Tx Wh X tg (.Call (.Name "range" p) [a] [] pos)) (λρ S=>(af ρ S).bind kG):=QR (λc n=>YO c 0 n) e b d hs
open Classical in
def Pj{e:Expr}{c:O0}{m:Scope}{j:Rho->Sto->R Wk}{cf:AZ}{ef:AX}{gf:↑24}(b:Scope)(N:C0)(T:C0)(a:Db)
  (hi:Jd X W (Tx Wh X tg iter) j) (hh:Wh X)
  (hg: ∀C d q fp,([]++T++a.map λi=>(N[i]?).getD Str.empty).Nodup->Zr T.length (zY X m T a C d q fp) W0 tg gf)
  (hc: ∀C d q fp,TL (zY X m T a C d q fp) W0 c cf) (he: ∀C d q fp,zR (zY X m T a C d q fp) W0 e ef)
  (e1:↑23=b:=by rfl) (e2:X.N=N:=by rfl) (hB:AV b N m a=true:=by decide+kernel) (hN:([]++T++a.map λi=>(N[i]?).getD Str.empty).Nodup:=by decide+kernel)
  (hs: ∀y,foldedSetIterable iter X.env y=pure y:=by intro _;rfl):
  zR X W (.ListComp e [⟨tg,iter,c,0⟩] m pos) (λρ S=>(j ρ S).bind λk S1=>if k.ds.length<1000000 then(yG gf cf ef (AM T.length a ρ) k.gs k.ds S1).bind λout u=>.ok (.new out) u else .no):=let ⟨t,h,k⟩:=(TN b N T a (C:=Wh) hi (λ_ _ _ _ _ _ I=>HdA.now (X:=X) hh I) hg hc he e1 e2 hB hN hs);⟨t,h.1,k⟩
end
section
variable{C:Addr}
def RMt(P:ł)(w:World)(K:P0)(mg:K0)(base:Heap)(m:Str)(k n:Nat)(c:Str)(F:↑25):Prop:= ∃C b a ps,OC K c C/\Meth K C m b/\FnOk P w K mg base EY k b a ps (Ag ⟨K,mg,P,w⟩ n F)/\Binds K a ps []
end
def KX(l:Bool)(K:P0)(α:B9)(H:Hp)(d:MV)(v:V):Prop:=if l=true then∃es a b,d=.tup es/\v=.ref a/\H a=some (.lst b)/\a∉α/\DenL K α H es b else Den K α H d v
inductive KXL(l:Bool)(K:P0)(α:B9)(H:Hp):List MV->List V->Prop
 |nil:KXL l K α H [] []
 |cons {d v ds vs}:KX l K α H d v->KXL l K α H ds vs->KXL l K α H (d::ds) (v::vs)
section
variable{K:P0}
def KX.ext(x:Ext α H α H')(h:KX l K α H d v):KX l K α H' d v:=by
 cases l with
 |true=>refine h.p λes a e c b h n l=>?_;exact Y6 es a e c b (x.keep a _ h n) n (DenL.ext x l)
 |false=>exact Den.ext x h
def KXL.ext(x:Ext α H α H'): ∀{ds}{vs},KXL l K α H ds vs->KXL l K α H' ds vs:=λa=>by
 induction a with
 |nil=>exact .nil
 |cons h t ih=>exact .cons (h.ext x) (ih)
def KXL.length: ∀{ds}{vs},KXL l K α H ds vs->↑47=ds.length:=λa=>by
 induction a with
 |nil=>exact rfl
 |cons h t ih=>exact by rw[lC0,lC0,ih]
end
open Classical in
def KAt(d:Addr)(a:A0)(ep:Nat)(h:Heap):Prop:= ∃o es,h.get? d=some o/\o.ExactDict/\o.data=.dict es ep/\es.toList.map (·.key)=a
theorem KAt.size(x:KAt d us ep h): ∃o es,h.get? d=some o/\o.ExactDict/\o.data=.dict es ep/\es.size=us.length/\ ∀i (hi:i<es.size),us[i]? =some es[i].key:=by refine x.g λo es a b c e=>?_;refine YD o es a b c (by rw[<-e,lM0,ü]) (λi hi=>?_);rw[<-e,ë,û,Array.getElem?_eq_getElem hi];rfl
mutual
def Cj:Expr->List Str
 |.Name x _=>[x]
 |.Tuple es _ _=>zDE es
 |_=>[]
def zDE:List Expr->List Str
 |[]=>[]
 |e::es=>Cj e++zDE es
end
section
variable{pos:Pos}
noncomputable abbrev gnN(T:C0)(N:C0)(a:Db):List Str:=[]++T++a.map λi=>(N[i]?).getD Str.empty
def Pk(S0:FnScope N ps osc)
  (hi:WI X W tg iter itf) (hg: ∀C d m fp,(gnN (Cj tg) N idx).Nodup->Zr (Cj tg).length (zY X sc (Cj tg) idx C d m fp) W0 tg gf)
  (hc: ∀C d m fp,TL (zY X sc (Cj tg) idx C d m fp) W0 ifs cf) (he: ∀C d m fp,zR (zY X sc (Cj tg) idx C d m fp) W0 elt ef)
  (hcalm:X.calm=true:=by rfl) (e1:↑23=osc:=by rfl) (e2:X.N=N:=by rfl) (hB:AV osc N sc idx=true:=by decide+kernel) (hN:(gnN (Cj tg) N idx).Nodup:=by decide+kernel)
  (hs: ∀y,foldedSetIterable iter X.env y=pure y:=by intro _;rfl):
  zR X W ↑27 (λρ S=>(itf ρ S).bind λk S1=>if k.ds.length<1000000 then(yG gf cf ef (AM (Cj tg).length idx ρ) k.gs k.ds S1).bind λout q=>.ok (.new out) q else .no):=pL osc N _ idx hi hcalm hg hc he e1 e2 hB hN hs
def Pl{x:Str}{pos' a:Pos}{i:Nat}(S0:FnScope N ps osc)
  (hi:WI X W tg iter itf) (hg: ∀C d m fp,(gnN (Cj tg) N idx).Nodup->Zr (Cj tg).length (zY X sc (Cj tg) idx C d m fp) W0 tg gf)
  (hc: ∀C d m fp,TL (zY X sc (Cj tg) idx C d m fp) W0 ifs cf) (he: ∀C d m fp,zR (zY X sc (Cj tg) idx C d m fp) W0 elt ef)
  (hcalm:X.calm=true:=by rfl) (e1:↑23=osc:=by rfl) (e2:X.N=N:=by rfl) (hB:AV osc N sc idx=true:=by decide+kernel) (hN:(gnN (Cj tg) N idx).Nodup:=by decide+kernel)
  (hs: ∀y,foldedSetIterable iter X.env y=pure y:=by intro _;rfl)
  (hi2:X.N[i]? =some x:=by rfl) (hx:Loc ↑23 x:=by first |exact Or.inl rfl|exact Or.inr rfl)
  (hsw:swapsWith ↑27 (some (.Name x pos')) a.line X.env=pure true:=by with_unfolding_all rfl) (hf:Q0 X x:=by first |exact .inl rfl|exact .inr rfl|assumption):
  LN X W (.Assign [.Name x pos'] ↑27 a) (λρ S=>((itf ρ S).bind λk S1=>if k.ds.length<1000000 then(yG gf cf ef (AM (Cj tg).length idx ρ) k.gs k.ds S1).bind λout q=>.ok (.new out) q else .no).bind (JH ρ i)):=TQ i (by rw[e2];exact S0.nd) osc N _ idx hi hcalm hg hc he e1 e2 hB hN hs hi2 hx hsw hf
end
section
variable{K:P0}{x:Str}{st:Stmt}
abbrev ScK(N ps:C0)(a:Scope):Prop:=N.Nodup/\N.take ps.length=ps/\(∀x∈ps,a.names.lookup x=some .local\/a.names.lookup x=some .cell)/\ ∀y∈a.names,y.2≠.free
def okL(Fb)(F:Fun K x qual st f fd)
  (h: ∀ d  A  outer  s  H  E ,N.Nodup->FnScope N ps (zE st)->Room k (A.deeper (envOfC qual (zE st) ↑3 f d))->uP (JF EY P w K mg base N qual (zE st) f d A outer s H E).nox W0 (wK st) Fb)
  (h4:ScK N ps (zE st):=by decide+kernel) (a:(zE st).kind=.function:=by rfl) (b:(zE st).isCoroutine=false:=by rfl) (c:(zE st).isGenerator=false:=by rfl):
  FnOk P w K mg base EY (k+1) f fd ps (Ag ⟨K,mg,P,w⟩ ps.length λds S=>yE (Fb (yA N ds) S)):=
 have e:=⟨a,b,c,h4.1,h4.2.1,h4.2.2.1,h4.2.2.2⟩
 P4 Fb F e λd A outer s H E i=>h d A outer s H E e.nd e i
def W7:Nat->(List Ł->Prop)->Prop
 |0,p=>p []
 |n+1,p=> ∀a,W7 n λl=>p (a::l)
theorem zDF: ∀ d {p},W7 d.length p->p d
 |[],_,h=>h
 |a::l,_,h=>zDF l (h a)
def forN(h:W7 n p)(us)(e:us.length=n):p us:=zDF us (e▸h)
def okA(Fb)(D:DefM K mg x st)
  (h: ∀ f  d  A  outer  s  H  E ,N.Nodup->FnScope N ps (zE st)->Room k (A.deeper (envOfC x (zE st) ↑3 f d))->uP (JF EY P w K mg base N x (zE st) f d A outer s H E).nox W0 (wK st) Fb)
  (hb:UJ x st ps:=by exact λ_ _ _ _ _ _=>forN (by(repeat intro _);rfl))
  (h4:ScK N ps (zE st):=by decide+kernel) (a:(zE st).kind=.function:=by rfl) (b:(zE st).isCoroutine=false:=by rfl) (c:(zE st).isGenerator=false:=by rfl):
  Ou P w K mg base x (k+1) ps.length ps λds S=>yE (Fb (yA N ds) S):=
 zAJ D hb λf _ F=>okL Fb F (h f) h4 a b c
end
def RMtX(P:ł)(w:World)(K:P0)(mg:K0)(base:Heap)(m:Str)(k n:Nat)(c:Str)(F:↑25):Prop:= ∃C b a ps,OC K c C/\Meth K C m b/\FnOk P w K mg base (Ik P w) k b a ps (Ld ⟨K,mg,P,w⟩ n F)/\Binds K a ps []
def RMtX.noX{K:P0}(T:RMtX P w K mg base m k n c F):RMt P w K mg base m k n c F:=let ⟨C,h,a,ps,b,e,G,d⟩:=T;(Y4 C h a ps ⟨b,e,G.noX,d⟩)
def Pm:Er->Option (List Nat)
 |.val (.int i)=>if i.natAbs.log2<1920 then some (OR i)else none
 |.val (.str x)=>some x
 |_=>none
def zAK(out:Db)(r:Er)(k:List Nat->R Er):R Er:=match Pm r with
 |some y=>if(out++y).length<=sizeLine then k (out++y)else .no
 |none=>.no
def PJ(X:Cx)(W:XW)(es:O0)(f:List Nat->AX):Prop:=
 ∀out pins s α a S σ H Q,out.length<=sizeLine->Inv X pins σ H s->Wd X.g α S H->Slots X.K α H a σ->Post X.g W α H (f out a S) Q->wpAny ↑5 X.A (joinParts (kX out) (evalEach es X.env)) (EP X pins σ Q) X.xe s
noncomputable def fzF(out:Db)(_:Rho)(S:Sto):R Er:=.ok (.val (.str out)) S
def W8(x:Db)(f:List Nat->AX)(out:Db)(ρ:Rho)(S:Sto):R Er:=zAK out (.val (.str x)) λo=>f o ρ S
def zAL(g:AX)(f:List Nat->AX)(out:Db)(ρ:Rho)(S:Sto):R Er:=(g ρ S).bind λr a=>zAK out r λo=>f o ρ a
section
variable{g:AX}
def Pn(J:zR X W e g)(E:PJ X W es f):PJ X W (.FormattedValue e (-1) none pos::es) (zAL g f):=by
 refine J.a λt G M=>?_;intro out pins s α n S σ H Q O I L sl q;refine joinParts_cons (FormattedValue_plain (wU (G pins s σ H (λx h=> ∃y a d,((∃i:Int,x=.int i/\i.natAbs.log2<1920/\y=OR i)\/x=.str (kX y))/\(out++y).length<=sizeLine/\Wd X.g a d h/\Slots X.K a h n σ/\Post X.g W a h (f (out++y) n d) Q) I (M α n S σ H _ L sl (q.bind λu r d a h N D p B b=>?_))) λv s1 ⟨x,h,I1,C,y,a,d,F,m,p,z,b⟩=>?_))
 .unfold zAK at b;split at b
  .rename_i y c;split at b
   .rename_i m;refine Y6 y a d ?_ m p (sl.ext D) (b.shift D);unfold Pm at c;split at c
    .split at c
     .rename_i i hi;cases c;exact .inl (Z1 i (yV B.1) hi rfl)
     .cases c
    .cases c;exact .inr (bP B.1)
    .cases c
   .exact b.elim
  .exact b.elim
 .have j:(kX out++kX y).length<=sizeLine:=by rw[FD,jV];exact m
  have k: ∀o,wpAny ↑5 X.A (joinParts (kX out++kX y) (evalEach es X.env)) (EP X pins σ Q) X.xe {s1 with toks:=o}:=λo=>by rw[FD];exact E _ pins _ a n d σ h Q m (I1.tok _) p z b
  rcases F with⟨i,rfl,hi,rfl⟩|rfl
  .obtain⟨t,rfl⟩:=C;refine formatField_int_small hi ?_;dsimp only;rw[show toString i=Str.ofString (toString i)from rfl,Nq];exact⟨j,k _⟩
  .obtain⟨t,rfl⟩:=C;refine formatField_str (λP o=>⟨j,k o⟩) ?_;rw[jV];rw[lA]at m;omega
def Po(x)(c:PJ X W es f)(h:y=kX x:=by rfl):PJ X W (.Constant (.str y) j pos::es) (W8 x f):=by
 subst h;intro out pins s α d S σ H Q i I e sl q;unfold W8 zAK Pm at q;dsimp only at q;split at q
 .rename_i b;have a:(kX out++kX x).length<=sizeLine:=by rw[FD,jV];exact b
  refine joinParts_cons (Calls.Constant_str ⟨a,?_⟩);rw[FD];exact c _ pins _ α d S σ H Q b (I.tok _) e sl q
 .exact q.elim
def Xk(h:PJ X W (a::b::es) f):zR X W (.JoinedStr (a::b::es) pos) (f []):=
 ⟨λσ H Q=> ∃α c S,Wd X.g α S H/\Slots X.K α H c σ/\Post X.g W α H (f [] c S) Q,λpins s σ H Q I ⟨α,c,S,d,sl,q⟩=>JoinedStr_many (h [] pins s α c S σ H Q (zero_le _) I d sl q),λα c S σ H Q d sl q=>(Y3 (α) c S d sl q)⟩
end
end M
end L2
namespace L2
open PySem PySem.Spec PyProof.Rows
noncomputable def To(x y:Int):Bool:=decide (0<=x/\x<4/\0<=y/\y<4)
section
variable{i:Nat}{σ:St}{H:Hp}
theorem Kd(K:X.N[i]? =some par)(M:La ↑23 par)(hd:(par==("__debug__"))=false)(D:↑44)(hs:σ[i]? =some (some (.ref a)))(F:To x y=true)(P:H a=some ↑41)(C:X.A.guards=some [])(O:↑32)(J: ∀y s,y.length<=100000->Inv X pins σ H s->Q y s)
   (hj:JL par es): ∀ d  s ,d.length+200 * es.length<=100000->Inv X pins σ H s->Joins ↑5 X.A X.xe (evalEach es X.env) d Q s:=by
 induction hj with
 |nil=>intro d s c I;exact J d s (by simpa using c) I
 |@txt y k pos es hy h ih=>
  intro d s c I;rw[lC0]at c;have sl:(d++y).length=d.length+y.length:=PySem.strLen_append ..;refine wU (Aj pins s σ H (λv H'=>v=.str y/\H'=H) I ⟨rfl,rfl⟩) λu s1 ⟨v,H',e,r,B,E⟩=>?_;subst B E;obtain⟨G,rfl⟩:=r;exact Z3 y G rfl (by rw[sl,ô];lia) (ih _ s1 (by rw[sl];lia) e)
 |@fld p pos es h ih=>
  intro d s c I;rw[lC0]at c;obtain⟨W,Z,k3,U⟩:=(by
    have k: ∀a∈[0,1,2,3], ∀b∈[0,1,2,3],(PyData.list [.int a,.int b]).shown.length<=200/\(PyData.list [.int a,.int b]).showable=true/\(PyData.list [.int a,.int b]).depth<=10/\(PyData.list [.int a,.int b]).hasDict=false:=by decide+kernel
    have F:=Ą F;exact k x (by simp only[mC];omega) y (by simp only[mC];omega));refine wpAny_FormattedValue_plain (wU (uL K M hd D pins s σ H (λv H'=>v=.ref a/\H'=H) I (Z1 _ hs rfl rfl)) λu s1 ⟨v,H',e,r,B,E⟩=>?_);subst B E;cases r;refine(e.lst P).b λq n L S hz=>?_
  obtain⟨j,m,rfl⟩: ∃j m,q=[.int x j,.int y m]:=by
   cases L with
   |cons r1 r=>cases r with
    |cons r2 r=>cases r;obtain⟨j,rfl⟩:=r1;obtain⟨m,rfl⟩:=r2;exact Y9 j m rfl
  have Y:Reads s1.heap _ _ [a]:=.list S rfl rfl (.cons (.int _ _) (.cons (.int _ _) .nil));have sl:(d++(PyData.list [.int x,.int y]).shown).length<=d.length+200:=by rw[PySem.strLen_append];exact Nat.add_le_add_left W _
  exact formatField_of_reads Y Z (λz=>by rw[U]at z;cases z) C (by omega) (λb o z=>z) (λh' u G T=>(Z3 _ _ rfl (by rw[ô];lia) (ih _ _ #[0] (e.kept T)))) (by rw[ô];lia)
def tJL(i:Nat):TE:=λσ H Q=> ∃a x y,σ[i]? =some (some (.ref a))/\To x y=true/\H a=some ↑41/\ ∀y:Str,Q (.str y) H
theorem Pp(e:X.N[i]? =some par)(k:La ↑23 par)(hd:(par==("__debug__"))=false)(d:↑44)(h:JL par (v1::v2::vs))(o:↑47<=100)(c:X.A.guards=some [])(b:↑32):PE X (.JoinedStr (v1::v2::vs) pos) (tJL i):=by
 intro pins s σ H Q I ⟨a,x,y,hs,j,m,q⟩;refine wpAny_JoinedStr (Kd e k hd d hs j m c b (λy s1 n I1=>⟨by rw[ô];lia,.str y,H,I1.tok _,⟨_,rfl⟩,q y⟩) h _ s ?_ I);rw[lC0,lC0];show 0+_<=_
 lia
end
namespace M
def UP(C:Addr)(c:Str):Sp:=λi H Q _=> ∃e a x y j,i=[.ref e,.ref a]/\To x y=true/\H a=some ↑41/\H e=some (.ext λh=>h.get? e=some (BH C none j))/\
 ∀l b d k,H l=none->H b=none->l≠e->b≠e->b≠l->Q .non (yQ (yQ (yQ H l ↑41) b (.frz d (.xd [(c,.ref l)]))) e (.ext λh=>h.get? e=some (BH C (some b) k)))
section
variable{p6 p10:Pos}
def Ke(hM:DL X.K M qC none)(XI:XIn X.K M C f)(XM:XMn X.K M)(ah:X.mg "MendError"=some (.ref M))(hg:Gl X "MendError")(P:X.N[0]? =some ("self":Str))(L:X.N[1]? =some par)(J:La ↑23 "self")(O:La ↑23 par)
  (hd:(par==("__debug__"))=false) (hcd:↑44) (hj:JL par (v1::v2::vs)) (hl:↑47<=100) (hf:fld∈qn) (hB:typeLookup ↑29 fld=pure none) (hcalm:X.calm=true) (hgd:X.A.guards=some []) (hun:↑32) (hgl:Gl X "list") (hml:X.mg "list"=none)
  (ht:eval ↑2 X.env=(do
   let ov <-eval (.Name "MendError" p1) X.env
   standAt p2.atName
   let (f,first) <-holding [ov] (getMethod ov "__init__" pl)
   callWith p5 f first (backTo p5 (starEach [.Name "self" p3,.JoinedStr (v1::v2::vs) p4] X.env)) (backToKw p5 (keywordEach [] X.env))))
  (hs1:swapsWith ↑2 none p6.line X.env=pure false) (hs2:swapsWith (.Call (.Name "list" p11) [.Name par p9] [] p12) (some (.Attribute (.Name "self" p7) fld p8)) p10.line X.env=pure false)
  (he:starEach [Expr.Name "self" p3,.JoinedStr (v1::v2::vs) p4] X.env=(false,eval (.Name "self" p3) X.env)::starEach [.JoinedStr (v1::v2::vs) p4] X.env:=by rfl) (he2:starEach [Expr.JoinedStr (v1::v2::vs) p4] X.env=(false,eval (.JoinedStr (v1::v2::vs) p4) X.env)::starEach [] X.env:=by rfl)
  (hpl:(backTo p5 (starEach [Expr.JoinedStr (v1::v2::vs) p4] X.env)).any (·.1)=false:=by rfl) (hel:starEach [Expr.Name par p9] X.env=(false,eval (.Name par p9) X.env)::starEach [] X.env:=by rfl) (hpl2:(backTo p12 (starEach [] X.env)).any (·.1)=false:=by rfl):
  PSs X [.Expr ↑2 p6,.Assign [.Attribute (.Name "self" p7) fld p8] (.Call (.Name "list" p11) [.Name par p9] [] p12) p10]
   (λD σ H=> ∃e a x y t0,σ[0]? =some (some (.ref e))/\σ[1]? =some (some (.ref a))/\To x y=true/\H a=some ↑41/\H e=some (.ext λh=>h.get? e=some (BH C none t0))/\
    ∀l B od m,H l=none->H B=none->l≠e->B≠e->B≠l->D.nx σ (yQ (yQ (yQ H l ↑41) B (.frz od (.xd [(fld,.ref l)]))) e (.ext λh=>h.get? e=some (BH C (some B) m)))):=by
 intro pins s σ H D I ⟨e,a,x,y,t0,s0,s1,hb,i,Z,q⟩;have ag:a≠e:=λz=>by rw[z,Z]at i;cases i
 refine XI.ex.s λnm qq N bs sn ak ab av dd k0 k1 k2 k3 k5 lC oN iN qN=>?_;refine Ğ (wpAny_Expr_any ?_ I.quiet hs1);refine PySem.W.methodCall_KW (pl:=pl) (pE I hg ah ?_) ht;refine PySem.W.method_cls I.kIn XM.ga (PySem.W.cls_value I.kIn XM.rd XM.init rfl ?_);refine PyProof.Rows.callWith_builtin1 (wU (gU (uL (X:=X) P J) (gU (Pp L O hd hcd hj hl hgd hun) sP he2) he p5 pins _ σ H (λvs H1=> ∃y,vs=[.ref e,.str y]/\H1=H) (I.tok _) ⟨_,s0,a,x,y,s1,hb,i,λy=>⟨y,rfl,rfl⟩⟩) ?_) he hpl;rintro us s2 ⟨ao,H2,w,r2,tx,e2,e3⟩;subst e2;rw[e3]at w
 obtain⟨u1,rfl⟩: ∃u1,us=[.ref e,u1]:=by
  cases r2 with
  |cons r1 r=>cases r with
   |cons r2 r=>cases r;cases r1;exact⟨_,rfl⟩
 have af:s2.heap.get? e=some (BH C none t0):=(w.hok e _ Z).1;have mu:F2 (H e):=by rw[Z];trivial
 obtain⟨ar,g2,d2,E,Y⟩:=s2;refine MK F.excBase_ValueError (Eu w.kIn hM) (w.kIn _ _ lC) af λh3 m j ai=>?_
 have I3:Inv X pins σ (yQ H e (.ext λh=>h.get? e=some (BH C none m))) ⟨h3,g2,d2,E,Y⟩:=
  w.write (t':=E) mu (.inl rfl) (λb u U hu=>ai b u U hu) ⟨_,j⟩ ⟨j,⟨_,j⟩,λh1 h2 z k=>k _ z⟩
 refine Ğ (plainObj_wpAny_Assign_Attribute ?_ hs2);refine wU (CQ pF hgl hml rO (gU (uL (X:=X) L O hd hcd) sP hel) ↑4 ↑4 hel hpl2 pins _ σ _ (λv H'=> ∃l,v=.ref l/\(yQ H e (.ext λh=>h.get? e=some (BH C none m))) l=none/\H'=yQ _ l ↑41) I3 ⟨_,s1,a,[.int x,.int y],rfl,.inl (.inl (.of (by rw[zH ag];exact i))),λl hl=>(Z1 l rfl hl rfl)⟩) ?_;rintro u s4 ⟨v4,H4,I4,r4,l,e4,n,e5⟩;subst e4 e5;have o:l≠e:=λz=>by rw[z,zI]at n;cases n
 have aj:H l=none:=by rwa [zH o]at n
 generalize S:yQ H l ↑41=G
 have eG:yQ (yQ H e (.ext λh=>h.get? e=some (BH C none m))) l ↑41=yQ G e (.ext λh=>h.get? e=some (BH C none m)):=by
  rw[<-S];funext b;by_cases z:b=e
  .subst z;rw[zI,zH (Ne.symm o),zI]
  .rw[zH z];by_cases T:b=l
   .subst T;rw[zI,zI]
   .rw[zH T,zH T,zH z]
 rw[eG]at I4;refine wU (uL (X:=X) P J ↑4 ↑4 pins _ σ _ (λv H'=>v=.ref e/\H'=yQ G e (.ext λh=>h.get? e=some (BH C none m))) I4 (Z1 _ s0 rfl rfl)) ?_;rintro u5 s5 ⟨v5,H5,Q,r5,e6,e7⟩;subst e6 e7;cases r5;have aa:s5.heap.get? e=some (BH C none m):=(Q.hok e _ zI).1;obtain⟨aw,g5,d5,aq,au⟩:=s5;refine RF (uY Q.kIn XI.cl hM) (Q.kIn _ _ lC) aa rfl rfl (λc z=>by cases z) hf hB λh6 tk6 B st=>ĕ ?_;obtain⟨d,ae,od,I6⟩:=Ew (tk6:=tk6) Q r4 st;have p:B≠l:=λz=>by rw[z, <-S,zI]at d;cases d
 refine Z0 (σ) _ ?_ (q l B od m aj (by rw[<-S,zH p]at d;exact d) o ae p);rw[S];exact I6
end
section
variable{K:P0}{st:Stmt}
def Pq{pl:Env->Sem Bool}(o:Fun K "__init__" qual st f fd)(k:FnScope ["self",par] ["self",par] (zE st))(r:DL K M qC none)(u:XIn K M C f)(B:XMn K M)(b:mg "MendError"=some (.ref M))
  (hbd:wK st=[.Expr ↑2 p6,.Assign [.Attribute (.Name "self" p7) fld p8] (.Call (.Name "list" p11) [.Name par p9] [] p12) p10])
  (ht: ∀env:Env,eval ↑2 env=(do
   let m <-eval (.Name "MendError" p1) env
   standAt p2.atName
   let (f,first) <-holding [m] (getMethod m "__init__" (pl env))
   callWith p5 f first (backTo p5 (starEach [.Name "self" p3,.JoinedStr (v1::v2::vs) p4] env)) (backToKw p5 (keywordEach [] env))))
  (hs1: ∀env:Env,swapsWith ↑2 none p6.line env=pure false) (hs2: ∀env:Env,swapsWith (.Call (.Name "list" p11) [.Name par p9] [] p12) (some (.Attribute (.Name "self" p7) fld p8)) p10.line env=pure false)
  (hg:(zE st).names.lookup ("MendError":Str)=some .globalImplicit) (hgl:(zE st).names.lookup ("list":Str)=some .globalImplicit) (hml:mg "list"=none) (h0:(zE st).names.lookup ("self":Str)=some .local) (h1:(zE st).names.lookup par=some .local)
  (hd:(par==("__debug__"))=false) (hcd:↑44) (hj:JL par (v1::v2::vs)) (hl:↑47<=100) (hf:fld∈qn) (hB:typeLookup ↑29 fld=pure none):FnOk P w K mg base EY 1 f fd ["self",par] (UP C fld):=by
 refine o.ok k (λc H Q E ⟨e,a,x,y,j,z,_⟩=>by rw[z];rfl) λp A d s H c Q E i ⟨e,a,x,y,j,z,n,h,v,q⟩=>?_;subst z;rw[hbd];exact⟨_,Ke r u B b hg rfl rfl (.inl h0) (.inl h1) hd hcd hj hl hf hB rfl i.gd i.units hgl hml (ht _) (hs1 _) (hs2 _),e,a,x,y,j,rfl,rfl,n,h,v,q⟩
end
theorem Fi:typeLookup ↑29 "ring"=pure none:=by rw[typeLookup_type];kernel_rfl
def Ps(x c:Str):Er->Sto->R Fl
 |.val (.loc l),S=>match S[l]? with
  |some (.lst [.int a,.int b])=>if To a b=true then .exc x [(c,.loc S.length)] (S++[.lst [.int a,.int b]])else .no
  |_=>.no
 |_,_=>.no
section
variable{pos np cpos:Pos}
def Kf(hx:XOk X E)(hg:Gl X x)(hm:X.mg x=some (.ref C))(hM:DL X.K M qC none)(XI:XIn X.K M C f)(G:FnOk X.prog X.w X.K X.mg X.base EY 1 f fd ["self",par] (UP C fld))(hb:Binds X.K fd ["self",par] [])(hr:Room k X.A)(ha:zR X (WE X.g E) e fe)
  (hk:2<=k:=by decide) (hex:X.ex=[]:=by rfl) (hcalm:X.calm=true:=by rfl) (hd:↑35=false:=by decide) (he:starEach [e] X.env=(false,eval e X.env)::starEach [] X.env:=by rfl) (hpl:(backTo cpos (starEach [] X.env)).any (·.1)=false:=by rfl):
  LN X (WE X.g E) (.Raise (some (.Call (.Name x np) [e] [] cpos)) none pos) (λρ S=>(fe ρ S).bind (Ps x fld)):=by
 refine ha.a λta ha fa=>?_;refine⟨λD σ H=>ta σ H λv d=> ∃p x y,v=.ref p/\To x y=true/\d p=some ↑41/\ ∀l c i,d l=none->d c=none->c≠l->E (.ref C) (some c) (yQ (yQ d l ↑41) c (.frz i (.xd [(fld,.ref l)]))),λpins s σ H D I h=>?_,λα ρ S σ H D wd sl q=>fa α ρ S σ H _ wd sl (q.expr λv r S1 aq d e1 x1 w1 d1 L=>?_)⟩
 .refine XI.ex.s λnm q N bs sn sub ab col dd k0 k1 k2 k3 k5 lC oN iN qN=>?_;refine XI.fo.a λoI lI cI=>?_;have XB:=I.mod.kin;have hN:=Heap.Ns.of_isNs (PySem.W.isNs_of_in XB oN);have ak:=MM XB hN iN;have T:=Eu XB hM
  refine IU (C:=C) (nm:=nm) (q:=q) (N:=N) (bs:=bs) (hdct:=true) (sn:=sn) (sub:=sub) (ab:=ab) (col:=col) (dd:=dd) (k0:=k0) (k1:=k1) (k2:=k2) (k3:=k3) (k5:=k5) (fI:=f) (oI:=oI)
   F.excBase_ValueError (T.hasType F.excBase_ValueError.hasBase) (I.ok.hd hcalm) (by rw[he];exact hpl) ak cI (pE I hg hm ⟨rfl,?_⟩ hd)
  have af:=gU ha sP he cpos pins s σ H (λY d=>match Y with |[v]=> ∃p x y,v=.ref p/\To x y=true/\d p=some (.lst [.int x,.int y])/\ ∀l c i,d l=none->d c=none->c≠l->E (.ref C) (some c) (yQ (yQ d l (.lst [.int x,.int y])) c (.frz i (.xd [(fld,.ref l)])))|_=>False) I h;rw[he]at af ⊢;refine Calls.evalArgs_plain (wU af λJ s1 ⟨Y,d,I1,r1,hv⟩=>?_)
  obtain⟨v0,rfl,p,x',y',rfl,hn,U,hE⟩: ∃v0,Y=[v0]/\ ∃p x y,v0=.ref p/\To x y=true/\d p=some ↑41/\ ∀l c i,d l=none->d c=none->c≠l->E (.ref C) (some c) (yQ (yQ d l ↑41) c (.frz i (.xd [(fld,.ref l)]))):=by
   match Y,hv with
   |[v],hv=>exact⟨v,rfl,hv⟩
  have o:J.length=1:=by rw[<-r1.length];rfl
  refine⟨rfl,by show J.length<=_;rw[o];decide,I1.bk _ _ (XB _ _ lC),hN.keeps I1.bk,T.keeps I1.bk,I1.bk _ _ (XB _ _ lI),λh' a mk=>?_⟩;have J1:Inv X pins σ d {s1 with heap:=h'}:=I1.kept (t':=s1.toks) mk.keeps;refine mk.there.c λt0 aa _ _=>?_;have oa:Out X pins d {s1 with heap:=h'} a:=⟨I1.older hex mk.new,I1.hok.none_of mk.new,λp U z=>(by have:=(I1.pin p U).1;rw[z,mk.new]at this;cases this),_,_,aa,rfl⟩
  have J2:=J1.trackE oa aa;have rv:Vals [.ref a,.ref p] (.ref a::J):=.cons rfl r1;have ai:p≠a:=λz=>by rw[z,oa.h]at U;cases U
  refine wpAny_call (Ė (G.run _ X.stack _ _ ⟨.ref a::J,[]⟩ (.ref a::J) [.ref a,.ref p] (λv H'=>v=.non/\ ∃l c i Z,d l=none/\d c=none/\l≠a/\c≠a/\c≠l/\H'=yQ (yQ (yQ _ l _) c (.frz i (.xd [(fld,.ref l)]))) a (.ext λh=>h.get? a=some (BH C (some c) Z))) E0
   ((hr.mono hk).make C J []) (J2.env0.make C J []) ?_ rv (Y2 a p x' y' t0 ⟨rfl,hn,(by rw[zH ai];exact U),zI,(λl c i Z g1 h1 g2 h2 g3=>⟨rfl,l,c,i,Z,by rwa [zH g2]at g1,by rwa [zH h2]at h1,g2,h2,g3,rfl⟩)⟩)) λr s' hq=>?_)
  .have hh:=hb _ (.ref a::J) J2.kIn (by simp[o]);rw[aN]at hh;exact hh
  .cases r with
   |error y=>exact hq.elim
   |ok fl=>
    cases fl with
    |ret u=>
     obtain⟨v3,H3,I3,r3,e3,l,c,i,Z,ao,Q,ae,n,aj,e4⟩:=J2.after hq;subst e3;have ag:s'.heap.get? a=some (BH C (some c) Z):=(I3.hok a (.ext λh=>h.get? a=some (BH C (some c) Z)) (by rw[e4];exact zI)).1;have I4:=I3.untrack (e:=a) (by rw[e4];exact zI)
     have eH:Wr H3 a=yQ (yQ d l (.lst [.int x',.int y'])) c (.frz i (.xd [(fld,.ref l)])):=by
      funext b;rw[e4];by_cases j:b=a
      .rw[j,ML,zH (Ne.symm n),zH (Ne.symm ae)];exact oa.h.symm
      .rw[BI j,zH j];by_cases O:b=c
       .rw[O,zI,zI]
       .rw[zH O,zH O];by_cases P:b=l
        .rw[P,zI,zI]
        .rw[zH P,zH j,zH P]
     rw[eH]at I4;exact⟨r3,_,_,I3.kIn _ _ lC,ag,hx.born pins σ _ s' a C (some c) I4 (Y9 _ _ ⟨ag,rfl,rfl,rfl,rfl,rfl⟩) oa.s0 (by rw[zH (Ne.symm n),zH (Ne.symm ae)];exact oa.h) (hE l c i ao Q aj)⟩
    |next=>exact False.elim hq
    |brk=>exact False.elim hq
    |cont=>exact False.elim hq
 .unfold Ps at L;split at L
  .rename_i l;split at L
   .rename_i a b hS;split at L
    .rename_i hn;refine(aG d1.1).a λp R U=>?_;subst R;refine(w1.of U).a λob h1 h2=>?_;rw[hS]at h1;cases h1;refine h2.a λY h3 l1=>?_;have ev:Y=[.int a,.int b]:=by obtain⟨v1,r1,rfl,k1,l1⟩:=l1.uncons;obtain⟨v2,r2,rfl,k2,l1⟩:=l1.uncons;rw[l1.isnil,xI k1,xI k2]
     subst ev;refine ZY p a b rfl hn h3 (λl2 c i ah Q n=>?_);obtain⟨x2,w2⟩:=w1.put (m:=.lst [.int a,.int b]) ah (Z8 _ zI (yD (yU a) (yD (yU b) yN)));have B:yQ d l2 (.lst [.int a,.int b]) c=none:=by rw[zH n];exact Q
     exact L _ _ (x1.trans (x2.trans (w2.newx B))) (w2.new B) C (some c) hm (.inr (Y3 c _ i rfl zI (.cons (pI (by rw[<-w1.len,è (à _),sub_self];rfl)) .nil)))
    .exact L.elim
   .exact L.elim
  .exact L.elim
end
noncomputable def YQ(ns:C0)(a:Str):Er->Sto->R Er
 |.val (.loc l),S=>match S[l]? with
  |some (.ins c fs)=>if c∈ns then(match fs.lookup a with
   |some (.loc m)=>.ok (.val (.loc m)) S
   |_=>.no)else .no
  |_=>.no
 |_,_=>.no
section
variable{pos:Pos}
def Xl(T:XTab X.K X.mg M cs)(hf:fld∈qn)(hB:typeLookup ↑29 fld=pure none)(Y:zR X W a f)(p:cs.map (·.1)=ns:=by rfl)
  (hbase:attributeBase a fld X.env (eval a X.env)=eval a X.env:=by rfl) (hgo: ∀o r,letTemporaryGo a o r=pure ():=by intro _ _;rfl):zR X W (.Attribute a fld pos) (λρ S=>(f ρ S).bind (YQ ns fld)):=by
 subst p;refine Y.a λta Y fa=>?_
 refine⟨λσ H Q=>ta σ H λv y=> ∃j k A J D n C,v=.ref j/\y j=some (.frz k (.ext λh=>h.get? j=some k))/\k.cls=.ref C/\k.dict=some A/\y A=some (.frz J (.xd D))/\D.lookup fld=some (.ref n)/\(∃i,DL X.K C (.ref M::qC) i)/\(∀c,k.data≠.cls c)/\Q (.ref n) y,
  λpins s σ H Q I h=>?_,λα ρ S σ H Q wd sl q=>fa α ρ S σ H _ wd sl (q.bind λu r S1 aj y e1 x1 w1 d1 b=>?_)⟩
 .rw[arm_eval_Attribute,hbase];refine wB (wU (Y pins s σ H _ I h) λu s1 ⟨v,y,I1,r1,j,k,A,J,D,n,C,e1,P,U,w,Z,ae,⟨i,cC⟩,L,q⟩=>?_);subst e1;cases r1;refine wB (đ (wB (ö ?_)));have hx:=(I1.hok j _ P).1;obtain⟨_,mA,p,B⟩:=I1.hok A _ Z;have e:=B fld;rw[ae]at e
  cases F:mA fld with
  |none=>rw[F]at e;exact e.elim
  |some u=>
   rw[F]at e;cases e;have O:=uY I1.kIn cC T.mc;obtain⟨nm,q',N,bs,ao,sn,ai,ab,aq,dd,k0,k1,k2,k3,k5,lC,_,_,_,rfl⟩:=cC;have hC:=I1.kIn _ _ lC;obtain⟨hp,g,d,ak,os⟩:=s1;refine RH O hC hx U w L p F hf hB rfl ?_;rw[hgo];exact wB (wP (wP (Z3 (.ref n) y (I1.tok _) rfl q)))
 .replace b:=b.shift x1
  unfold YQ at b;split at b
  .rename_i l;split at b
   .rename_i c fs hl;split at b
    .rename_i U;split at b
     .rename_i m G;refine(aG d1.1).a λj R af=>?_;subst R;obtain⟨C,D,F,E,k,P,ah,w⟩:=w1.obj l j _ af hl;refine(mM0.mp U).a λV ag ac=>?_;obtain ⟨c',C'⟩:=V;subst ac;obtain⟨z1,z2⟩:=T.each.at ag;have:C=C':=by have z:X.mg c'=some _:=F;rw[z1]at z;cases z;rfl
      subst this;rcases w with rfl|⟨A,J,h1,h2,vs,h3⟩
      .simp at G
      .refine(E.get G).a λv hv hd=>?_;refine(aG (K:=X.K) (H:=y) hd).a λn ad hn=>?_;subst ad;exact Yc j k A J D n C ⟨rfl,P,ah,h1,h2,hv,z2,(λc z=>by rw[h3]at z;cases z),Post.val b w1 (pI hn)⟩
     .exact b.elim
    .exact b.elim
   .exact b.elim
  .exact b.elim
end
def Xm(w:Db)(ρ:Rho)(j:Nat):Er->Sto->R Fl
 |.val d,S=>JH ρ j (.val (.tup [.str w,d])) S
 |_,_=>.no
section
variable{W:XW}{i j:Nat}{nm y:Str}{mp hpos cpos epos pos p pos':Pos}
end
section
variable{i j:Nat}{nm y:Str}{mp hpos cpos epos pos':Pos}
def Pt{ws:Str}{B:Nat}{E c:Pos}{tx}(w)(T:XTab X.K X.mg M cs)(U:Gl X "MendError")(hN:X.N.Nodup)(G:Ov X.prog X.w X.K X.mg X.base x k n ps F)(hr:Room k X.A)(hg:Gl X x)(P:IM X.nox W0 (e::es) af)(a: ∀v,uP (X.inH v) W0 (b0::suite) Fh)(O:cs.map (·.1)=ns:=by rfl)(hi:X.N[i]? =some nm:=by rfl)(hk:X.env.kindOf nm=some .local:=by rfl)(aa:X.ex=[]:=by rfl)(C:X.stack=X.env::X.outer:=by rfl)(Y:X.env.frame=some X.env.locals:=by rfl)
  (hj:X.N[j]? =some y:=by rfl) (hy:Loc ↑23 y:=by first |exact Or.inl rfl|exact Or.inr rfl) (hf:X.fn y=true\/X.env.scope.names.lookup y=some .local:=by first |exact .inl rfl|exact .inr rfl|assumption)
  (hdb:↑35=false:=by decide) (he:q8 X e es:=by rfl) (hpl:(backTo cpos (starEach es X.env)).any (·.1)=false:=by rfl) (hs1:starEach [Expr.Constant (.str ws) B E,.Call (.Name x p) (e::es) [] cpos] X.env=(false,eval (.Constant (.str ws) B E) X.env)::starEach [.Call (.Name x p) (e::es) [] cpos] X.env:=by rfl) (hs2:starEach [Expr.Call (.Name x p) (e::es) [] cpos] X.env=(false,eval (.Call (.Name x p) (e::es) [] cpos) X.env)::starEach [] X.env:=by rfl) (hw:ws=kX w:=by rfl) (hs:swapsWith (.Tuple [.Constant (.str ws) B E,.Call (.Name x p) (e::es) [] cpos] tx c) (some (.Name y pos')) epos.line X.env=pure false:=by rfl):
  LN X W (.Try [.Assign [.Name y pos'] (.Tuple [.Constant (.str ws) B E,.Call (.Name x p) (e::es) [] cpos] tx c) epos] [.ExceptHandler (some (.Name "MendError" mp)) (some nm) (b0::suite) hpos] [] [] pos)
   (λρ S=>(noX (af ρ S)).bind λrs S1=>OS ns i (Xm w ρ j) Fh ρ (xW n F rs S1)):=
 let ⟨_,_,G,m,kp,b⟩:=G.ex;(by
   subst O;refine P.a λta P kk=>?_
   refine⟨λD σ H=> ∀pins s,Inv X pins σ H s->wpAny ↑5 X.A _ (SP X pins D) X.xe s,
    λpins s σ H D I h=>h pins s I,λα ρ S σ H D wd sl q pins s I=>?_⟩
   rw[arm_exec_Try];subst hw;refine wB (đ (wpAny_tryStmt_except (Ğ (wpAny_Assign_Name (wpAny_Tuple_spliced ?_) hs))))
   have ht:=Of (Q:=λu H2=> ∀p,H2 p=none->D.nx (σ.set j (some (.ref p))) (yQ H2 p (.tup [.str (kX w),u]))) kk wd sl q λr S1 u z H1 J x1 w1 d1 p hp=>by
    unfold Xm at J;split at J
    .rename_i d;have Z:=w1.newx (o:=.tup [.str (kX w),u]) hp;exact J _ z _ (x1.trans Z) (w1.new hp) (((sl.ext x1).ext Z).set (rL (.of zI) (yD (nI w) (yD ((show Den X.K z H1 d u from d1.1).ext Z) yN))))
    .exact J.elim
   rw[hs1];show wpAny _ _ _ _ _ s;refine Calls.spliced_cons (Calls.Constant_str (x:=kX w) (k:=B) (pos:=E) ?_);rw[hs2];refine Calls.spliced_cons (wU (Oe G hr hg m kp b P (I.tok _) ht (λH1 s1 y L I1 hq=>T8 T U hN hi hk a aa C Y sl I1 hq) hdb he hpl) λu L ⟨v,H',I',r',q'⟩=>?_);refine Calls.spliced_nil ⟨by rw[ô];show 2<=_;decide,?_⟩;exact FA (I'.laid (t':=L.toks) (o:=.tup [.str (kX w),v]) (λb u e=>hP0 _ e) (à _) ⟨by rw[ô];show 2<=_;decide,_,.cons ⟨_,rfl⟩ (.cons r' .nil),⟨_,ä _ rfl,rfl,_,rfl⟩⟩) hN hj hy (show RelV (.ref L.heap.objs.size) (.ref L.heap.objs.size)from rfl) (λs2 I2=>ĕ (ĕ (Z0 _ _ I2 (q' _ (I'.hok.fresh (à _)))))) hf)
end
def QJ(b:C0)(i j:Nat)(w:Db)(h:AY)(n:Nat)(F:↑25)(a:↑43)(ρ:Rho)(S:Sto):R Fl:=(noX (a ρ S)).bind λr S=>OS b i (Xm w ρ j) h ρ (xW n F r S)
end M
end L2
namespace L2
namespace M
namespace My
open PySem PySem.Spec PyProof.Rows
set_option bootstrap.genMatcherCode true in
local macro_rules
 | `(tactic|simp? [$xs,*] $[$l:location]?)=>`(tactic|simp only[List.getElem?_cons_zero,List.getElem?_cons_succ,Vv,aX,as_int,zCG,R4,add_int,sub_int,eq_int,R5,zCH,lst1,T2,zCI,lst6,tup2,zCJ,isi_is,isi_ss,T4,T5,isi_tt,T6,Wb,Wc,set_cons_zero,set_cons_succ,if_true,Wf,We,vJ,kJ,bJ,dJ,nJ,aJ,oJ,iJ,mJ,tJ,zJ,fJ,xJ,eJ,gJ,uJ,pJ,jJ,qJ,rJ,sJ,wJ,yJ,AJ,BJ,CJ,DJ,EJ,FJ,JJ,$xs,*] $[$l:location]?)
set_option bootstrap.genMatcherCode true in
local macro_rules
 |`(#[$x])=>`(some (.loc $x))
 |`(#[$x,0])=>`(some (.int $x))
 |`(#[$x,1])=>`(.val (.loc $x))
 |`(#[$x,2])=>`(some (.lst $x))
 |`(#[$x,3])=>`(some (.tup $x))
 |`(#[$x,4])=>`(some (.str $x))
 |`(#[$x,5])=>`(.val (.int $x))
 |`(#[$x,6])=>`(.val (.tup $x))
 |`(#[$x,7])=>`(some (.dic $x))
 |`(#[$x,8])=>`(($x).map MV.str)
 |`(#[])=>`(by lia)
 |`(#[$x,$s,0])=>`(.ok (.next $x) $s)
 |`(#[$x,$s,1])=>`(.ok (.val $x) $s)
 |`(#[$x,$s,2])=>`(.ok (.new $x) $s)
abbrev MU:List Str:=["atoms","names","atom","term"]
abbrev oW:List Str:=["question","seen","place","atom"]
abbrev sT:List Str:=["tables","question","place","learnt","unknown","reached","waiting","names","other"]
abbrev UQ:List Str:=["tables","question","pairs","a"]
abbrev Pu:List Str:=["tables","question","pairs","a","b"]
abbrev tZ:List Str:=["tables","question","pairs","left","ordered","unswayed"]
abbrev BL:List Str:=["tables","atom","named","t","key","in_key","named_now","first","cells","sames","column","term"]
abbrev AA:List Str:=["tables","question","found","named","parts","atom","formula","part"]
abbrev rS:List Str:=[Š,Ō,ň]
abbrev eI:List Str:=["_law_term_here","_law_bound"]
abbrev aI:List Str:=[Ś,Ń]
abbrev IW:List Str:=[Ń,ņ,Ő,ő]
abbrev BM:List Str:=[Ő,ţ,ń,ŉ]
abbrev Pw:List Str:=[Ň,Ŋ,Ń,ň,Ť,Ō,ņ,"_law_told_here","_law_first","_law_other"]
noncomputable abbrev XNS:List Str:=["TooGreat","NoText","NoPlace","NotPlain","NoTable","NoRule","NoRow","Twice","NoQuestion","Double","TooWide","Ring"]
def eK:AY:=(iJ (bJ (dJ AS (dJ yC (vJ 3) ↑15) (kJ (.str [118,97,114]))) bN) ((EJ (kJ (.bl true)) (DJ vZ (vJ 1) (dJ yC (vJ 3) ↑6)))) (JJ))
def eM:AY:=(eK)
def qI:AY:=(FJ (bJ (dJ yC (vJ 2) ↑6) Iq) (xF 3) (eM))
def pN:AY:=(qI)
abbrev AF:=AY
abbrev AE:=AX
def pO:AF:=(CJ zJ 1)
def pP:AF:=(FJ (bJ (vJ 0) itQ) (xF 2) (pN))
def pQ:AF:=(AJ (bJ ↑45 uZ))
def ES:AF:=zL (pO) (zL (pP) ((pQ)))
def kU(ds:R0)(S:Sto):R Er:=yE (ES (yA MU ds) S)
def yR:AY:=(iJ (bJ (dJ (HF false) (dJ yC (vJ 3) ↑15) (vJ 1)) bN) ((bJ (vJ 2) (zEN "Double" "place"))) (JJ))
def jL:AY:=(EJ (kJ (.bl true)) (DJ vZ (vJ 1) (dJ yC (vJ 3) ↑15)))
def wL:AY:=zL (yR) ((jL))
def gQ:AF:=(CJ zJ 1)
def gR:AF:=(FJ (bJ (yJ ↑13 wJ) zCL) (Io 2 (wH (xF 2) (wH (xF 3) vS))) (wL))
def dO:AF:=zL (gQ) ((gR))
def xD(ds:R0)(S:Sto):R Er:=yE (dO (yA oW ds) S)
def cF:AZ:=(bJ (dJ (BC true) (vJ 0) (dJ yC (vJ 1) ↑15)) bN)
def iU:AE:=(vJ 0)
def eO:AF:=(AJ (pJ (bJ (fJ 1 kU (yJ (bJ ↑45 jX) wJ)) IQ) (xF 0) (cF) (iU) 1 [0]))
def pS:AF:=(eO)
def xZ(ds:R0)(S:Sto):R Er:=yE (pS (yA ["question","atom"] ds) S)
def lX:AF:=(CJ (dJ yC (dJ yC (vJ 0) (dJ yC (vJ 2) ↑15)) ↑6) 3)
def lY:AF:=(AJ (fJ 2 xZ (yJ (vJ 1) (yJ (bJ (yJ (dJ yC (vJ 2) ↑15) (yJ (tJ dN (dJ yC (vJ 2) ↑6) mJ (bJ (vJ 3) IP)) wJ)) xY) wJ))))
def rV:AF:=zL (lX) ((lY))
def aR(ds:R0)(S:Sto):R Er:=yE (rV (yA ["tables","question","atom","key"] ds) S)
def qK:AZ:=uJ
def eP:AE:=(bJ (yJ (vJ 0) (yJ (kJ (.bl true)) wJ)) xY)
def qL:AZ:=uJ
def eQ:AE:=(dJ (HF false) (vJ 0) (vJ 1))
def qO:AZ:=uJ
def eR:AE:=(bJ (yJ (vJ 0) (yJ (kJ (.bl true)) wJ)) xY)
def qP:AY:=(iJ (bJ (bJ (yJ (pJ (bJ (fJ 3 aR (yJ (vJ 0) (yJ (vJ 1) (yJ (vJ 7) wJ)))) IQ) (xF 0) (qL) (eQ) 1 [5]) wJ) Vn) aZ) ((BJ (eJ Xa RO (vJ 5) (yJ (bJ (yJ (pJ (bJ (fJ 2 xZ (yJ (vJ 1) (yJ (vJ 7) wJ))) IQ) (xF 0) (qO) (eR) 1 []) wJ) YI) wJ)))) (JJ))
def eS:AY:=(qP)
def eT:AY:=(CJ (bJ (yJ (vJ 5) wJ) RP) 6)
def qQ:AY:=(FJ (bJ (vJ 4) Iq) (xF 7) (eS))
def eU:AY:=zL (eT) ((qQ))
def mB:AZ:=(bJ (dJ XF (vJ 6) (bJ (yJ (vJ 5) wJ) RP)) bN)
def pT:AF:=(CJ (dJ yC (vJ 1) ↑6) 3)
def pU:AF:=(CJ (dJ yW (tJ dN (vJ 3) mJ (bJ (vJ 2) IP)) (tJ dN (vJ 3) (bJ (dJ yW (vJ 2) ↑6) IP) mJ)) 4)
def pV:AF:=(CJ (bJ (yJ (pJ (bJ (fJ 3 aR (yJ (vJ 0) (yJ (vJ 1) (yJ (dJ yC (vJ 3) (vJ 2)) wJ)))) IQ) (xF 0) (qK) (eP) 1 []) wJ) YI) 5)
def pW:AF:=(CJ (kJ (.int (-1))) 6)
def vB:AF:=(λa S=>jY (mB) (eU) 10000 a S)
def vC:AF:=(AJ (vJ 5))
def vD:AF:=zL (pT) (zL (pU) (zL (pV) (zL (pW) (zL (vB) ((vC))))))
def vE(ds:R0)(S:Sto):R Er:=yE (vD (yA ["tables","question","place","atoms","others","names","before","other"] ds) S)
def bR:AZ:=uJ
def kI:AE:=(dJ (BC false) (vJ 0) (vJ 1))
def aK:AF:=(AJ (bJ (yJ (pJ (bJ (vJ 0) IQ) (xF 0) (bR) (kI) 1 [1]) wJ) Nn))
def cG:AF:=(aK)
def cH(ds:R0)(S:Sto):R Er:=yE (cG (yA ["some","others"] ds) S)
def eV:AZ:=(bJ (dJ (HF true) (vJ 0) (vJ 1)) bN)
def rW:AE:=(vJ 0)
def rX:AZ:=uJ
def eW:AE:=(pJ (bJ (fJ 2 xZ (yJ (vJ 1) (yJ (vJ 0) wJ))) IQ) (xF 0) (eV) (rW) 1 [2])
def rY:AY:=(iJ (rJ (bJ (dJ (HF true) (vJ 8) (vJ 5)) bN) (bJ (fJ 2 cH (yJ (vJ 7) (yJ (dJ yC (vJ 4) (vJ 8)) wJ))) aZ)) (zL (EJ (kJ (.bl true)) (DJ vZ (vJ 5) (vJ 8))) ((BJ (eJ kH BE (vJ 6) (yJ (vJ 8) wJ))))) (JJ))
def nO:AY:=(rY)
def eX:AY:=(CJ (dJ yC (vJ 4) (gJ kH MS (vJ 6))) 7)
def rZ:AY:=(FJ (bJ (yJ (bJ (yJ (vJ 4) wJ) kY) wJ) kG) (xF 8) (nO))
def nP:AY:=zL (eX) ((rZ))
def jM:AZ:=(bJ (vJ 6) aZ)
def oB:AF:=(CJ (fJ 3 vE (yJ (vJ 0) (yJ (vJ 1) (yJ (vJ 2) wJ)))) 3)
def oE:AF:=(CJ (pJ (bJ (dJ yC (vJ 1) ↑6) Iq) (xF 0) (rX) (eW) 1 [1,3]) 4)
def oF:AF:=(CJ (d1J (vJ 2) (kJ (.bl true))) 5)
def oG:AF:=(CJ (bJ (yJ (vJ 2) wJ) jX) 6)
def AB:AF:=(λa S=>jY (jM) (nP) 10000 a S)
def AC:AF:=(AJ (bJ (yJ (vJ 5) wJ) uZ))
def sU:AF:=zL (oB) (zL (oE) (zL (oF) (zL (oG) (zL (AB) ((AC))))))
def mE(ds:R0)(S:Sto):R Er:=yE (sU (yA sT ds) S)
def BN:AZ:=(bJ (dJ QT (vJ 0) (vJ 1)) bN)
def BO:AE:=(bJ (yJ (vJ 1) (yJ (vJ 0) wJ)) xY)
def IX:AY:=(BJ (eJ kH UK (vJ 2) (yJ (pJ (bJ (fJ 3 mE (yJ (vJ 0) (yJ (vJ 1) (yJ (vJ 3) wJ)))) IQ) (xF 0) (BN) (BO) 1 [3]) wJ)))
def DD:AY:=(IX)
def uA:AF:=(BJ (xJ 1 xD ↑45))
def HK:AF:=(CJ (bJ wJ jX) 2)
def HL:AF:=(FJ (bJ (yJ (bJ (yJ (dJ yC (vJ 1) ↑6) wJ) kY) wJ) kG) (xF 3) (DD))
def RU:AF:=(AJ (bJ (yJ (vJ 2) wJ) RL))
def FU:AF:=zL (uA) (zL (HK) (zL (HL) ((RU))))
def pX(ds:R0)(S:Sto):R Er:=yE (FU (yA UQ ds) S)
def ET:AY:=(iJ (bJ (dJ (BC false) (bJ (yJ (vJ 4) (yJ (vJ 3) wJ)) xY) (vJ 2)) bN) ((AJ (bJ (yJ (vJ 3) (yJ (vJ 4) wJ)) jX))) (JJ))
def FV:AY:=(ET)
def BP:AF:=(CJ (xJ 2 pX (yJ (vJ 0) ↑45)) 2)
def MW:AF:=(FJ (bJ (vJ 2) IQ) (Io 2 (wH (xF 3) (wH (xF 4) vS))) (FV))
def Px:AF:=(AJ (kJ .non))
def MX:AF:=zL (BP) (zL (MW) ((Px)))
def sV(ds:R0)(S:Sto):R Er:=yE (MX (yA Pu ds) S)
def DV:AZ:=uJ
def sW:AE:=(dJ (BC false) (bJ (yJ (vJ 0) ↑45) xY) (vJ 2))
def sX:AZ:=(qJ (bJ (bJ (yJ (pJ (bJ (vJ 2) IQ) (xF 0) (DV) (sW) 1 [0,1]) wJ) Nn) aZ))
def DX:AE:=(vJ 0)
def sY:AZ:=(bJ (dJ (BC true) (vJ 0) (vJ 1)) bN)
def DY:AE:=(vJ 0)
def DZ:AY:=(CJ (pJ (bJ (vJ 3) IQ) (xF 0) (sX) (DX) 1 [2,3]) 5)
def EA:AY:=(BJ (eJ kH UK (vJ 4) (yJ (vJ 5) wJ)))
def EB:AY:=(CJ (pJ (bJ (vJ 3) IQ) (xF 0) (sY) (DY) 1 [5]) 3)
def BQ:AY:=zL (DZ) (zL (EA) ((EB)))
def pY:AZ:=(bJ (vJ 3) aZ)
def EC:AZ:=uJ
def sZ:AE:=(dJ yC (dJ yC (vJ 1) ↑6) (vJ 0))
def sB:AF:=(CJ (xJ 2 pX (yJ (vJ 0) ↑45)) 2)
def BR:AF:=(CJ (bJ (yJ (bJ (yJ (dJ yC (vJ 1) ↑6) wJ) kY) wJ) YE) 3)
def BS:AF:=(CJ (bJ wJ jX) 4)
def BU:AF:=(λa S=>jY (pY) (BQ) 10000 a S)
def IY:AF:=(AJ (pJ (bJ (vJ 4) IQ) (xF 0) (EC) (sZ) 1 [1]))
def Kg:AF:=zL (sB) (zL (BR) (zL (BS) (zL (BU) ((IY)))))
def DE(ds:R0)(S:Sto):R Er:=yE (Kg (yA tZ ds) S)
def MY:AF:=(AJ (aJ (dJ AS (dJ yC (vJ 0) ↑15) (kJ (.str [118,97,114]))) (dJ (BC true) ↑13 (vJ 1))))
def YR:AF:=(MY)
def uB(ds:R0)(S:Sto):R Er:=yE (YR (yA ["term","named"] ds) S)
def vF:AF:=(AJ (iJ (bJ (fJ 2 uB (yJ (vJ 0) ↑45)) aZ) (bJ (yJ (kJ (.str [118,97,114])) (yJ (dJ yW (kJ (.str [115,111,109,101,32])) ↑13) wJ)) xY) (vJ 0)))
def vG:AF:=(vF)
def vH(ds:R0)(S:Sto):R Er:=yE (vG (yA ["term","named"] ds) S)
def oH:AZ:=uJ
def nQ:AE:=(fJ 2 vH (yJ (vJ 0) ↑45))
def AD:AY:=(iJ (bJ (fJ 2 uB (yJ (vJ 11) (yJ (vJ 6) wJ))) aZ) (zL (BJ (eJ kH BE (vJ 8) (yJ (vJ 11) wJ))) ((BJ (eJ kH BE (vJ 6) (yJ (dJ yC (vJ 11) ↑6) wJ))))) (zL (BJ (eJ kH BE (vJ 8) (yJ (bJ (yJ (kJ (.str [118,97,114])) (yJ ((W8 [99,101,108,108,32] (zAL (vJ 3) (W8 [32] (zAL (vJ 10) fzF)))) []) wJ)) xY) wJ))) ((BJ (eJ kH BE (vJ 9) (yJ (bJ (yJ (kJ (.str [115,97,109,101])) (yJ (dJ yC (vJ 8) (kJ (.int (-1)))) (yJ (vJ 11) wJ))) xY) wJ))))))
def mG:AY:=(AD)
def ED:AF:=(CJ (dJ yC (vJ 1) ↑15) 3)
def tB:AF:=(CJ (dJ yC (dJ yC (vJ 0) (vJ 3)) ↑6) 4)
def tD:AF:=(CJ (tJ dN (dJ yC (vJ 1) ↑6) mJ (bJ (vJ 4) IP)) 5)
def tE:AF:=(CJ (dJ yW (vJ 2) (fJ 1 kU (yJ (bJ (yJ (bJ (yJ (vJ 3) (yJ (vJ 5) wJ)) xY) wJ) jX) wJ))) 6)
def tF:AF:=(CJ (bJ (yJ (kJ (.str [115,111,109,101])) (yJ (vJ 3) (yJ (dJ yW (vJ 5) (bJ (yJ (pJ (bJ (tJ dN (dJ yC (vJ 1) ↑6) (bJ (vJ 4) IP) mJ) Iq) (xF 0) (oH) (nQ) 1 [6]) wJ) iQ)) wJ))) xY) 7)
def tG:AF:=(CJ (bJ wJ jX) 8)
def tH:AF:=(CJ (bJ wJ jX) 9)
def tI:AF:=(FJ (bJ (yJ (tJ dN (dJ yC (vJ 1) ↑6) (bJ (vJ 4) IP) mJ) wJ) zCL) (Io 2 (wH (xF 10) (wH (xF 11) vS))) (mG))
def EE:AF:=(AJ (dJ yW (bJ (yJ (vJ 7) (yJ (bJ (yJ (kJ (.str [101,97,99,104])) (yJ (vJ 3) (yJ (dJ yW (vJ 5) (bJ (yJ (vJ 8) wJ) iQ)) wJ))) xY) wJ)) jX) (vJ 9)))
def YS:AF:=zL (ED) (zL (tB) (zL (tD) (zL (tE) (zL (tF) (zL (tG) (zL (tH) (zL (tI) ((EE)))))))))
def mR(ds:R0)(S:Sto):R Er:=yE (YS (yA BL ds) S)
def oX:AY:=(BJ (eJ kH UK (vJ 4) (yJ (fJ 3 mR (yJ (vJ 0) (yJ (vJ 5) (yJ (vJ 3) wJ)))) wJ)))
def oY:AY:=(BJ (eJ kH UK (vJ 3) (yJ (fJ 1 kU (yJ (bJ (yJ (vJ 5) wJ) jX) wJ)) wJ)))
def eY:AY:=zL (oX) ((oY))
def oZ:AY:=(CJ (dJ yW (vJ 7) (bJ (yJ (vJ 6) wJ) xY)) 6)
def eZ:AY:=(oZ)
def yM:AF:=(CJ (xJ 2 sV (yJ (vJ 0) ↑45)) 2)
def kL:AF:=(iJ (bJ (dJ QU (vJ 2) (kJ .non)) bN) ((bJ (vJ 2) (Ps "Ring" "ring"))) (JJ))
def sC:AF:=(CJ (bJ (yJ (dJ yC (vJ 1) ↑15) wJ) LT) 3)
def fA:AF:=(CJ (bJ wJ jX) 4)
def fB:AF:=(FJ (bJ (xJ 2 DE (yJ (vJ 0) ↑45)) IQ) (xF 5) (eY))
def sE:AF:=(CJ (bJ (yJ (kJ (.str [121,101,115])) wJ) xY) 6)
def fC:AF:=(FJ (bJ (yJ (vJ 4) wJ) zCZ) (xF 7) (eZ))
def FW:AF:=(AJ (vJ 6))
def wZ:AF:=zL (yM) (zL (kL) (zL (sC) (zL (fA) (zL (fB) (zL (sE) (zL (fC) ((FW))))))))
def yB(ds:R0)(S:Sto):R Er:=yE (wZ (yA AA ds) S)
def cJ:AF:=(iJ (bJ (dJ XF (vJ 1) (bJ (yJ (vJ 0) wJ) kY)) bN) ((AJ (dJ yC (vJ 0) (vJ 1)))) (JJ))
def uC:AF:=(AJ ↑15)
def fD:AF:=zL (cJ) ((uC))
def zX(ds:R0)(S:Sto):R Er:=yE (fD (yA [Ň,ŉ] ds) S)
def jZ:AY:=(CJ (dJ yW (vJ 3) (dJ yC (vJ 1) (dJ wX (vJ 0) (kJ (.int 26))))) 3)
def hW:AY:=(CJ (dJ gP (vJ 0) (kJ (.int 26))) 0)
def cK:AY:=zL (jZ) ((hW))
def cL:AF:=(CJ (kJ (.str [97,98,99,100,101,102,103,104,105,106,107,108,109,110,111,112,113,114,115,116,117,118,119,120,121,122])) 1)
def cN:AF:=(CJ (dJ yW ↑6 (dJ wX (vJ 0) (kJ (.int 8)))) 2)
def cO:AF:=(CJ (dJ gP (vJ 0) (kJ (.int 8))) 0)
def cP:AF:=(CJ (kJ (.str [])) 3)
def cQ:AF:=(FJ (bJ (yJ (vJ 2) wJ) kG) (xF 4) (cK))
def iV:AF:=(AJ (bJ (yJ (vJ 3) (yJ (vJ 0) wJ)) xY))
def fE:AF:=zL (cL) (zL (cN) (zL (cO) (zL (cP) (zL (cQ) ((iV))))))
def jN(ds:R0)(S:Sto):R Er:=yE (fE (yA [ŋ,"_law_letters",ń,"_law_name",ŉ] ds) S)
def yY:AY:=(iJ (bJ (dJ (BC false) (vJ 4) (vJ 2)) bN) ((CJ (dJ yW (tJ dN (vJ 4) mJ (bJ (kJ (.int 7)) IP)) (vJ 5)) 4)) (JJ))
def yP:AY:=(yY)
def yZ:AY:=(EJ (fJ 1 jN (yJ (vJ 0) wJ)) (Io 2 (wH (xF 4) (wH (xF 0) vS))))
def xA:AY:=(FJ (bJ (kJ (.str [97,98,99,100,101,102,103,104,105,106])) zEI) (xF 5) (yP))
def xB:AY:=(BJ (eJ kH BE (vJ 2) (yJ (vJ 4) wJ)))
def xK:AY:=zL (yZ) (zL (xA) ((xB)))
def xL:AF:=(CJ (bJ wJ jX) 2)
def xN:AF:=(FJ (bJ ↑45 kG) (xF 3) (xK))
def kW:AF:=(AJ (vJ 2))
def wA:AF:=zL (xL) (zL (xN) ((kW)))
def wC(ds:R0)(S:Sto):R Er:=yE (wA (yA [ŋ,ń,Ŋ,ŉ,"_law_word","_law_letter"] ds) S)
def cS:AY:=(CJ (dJ yW (dJ gP (vJ 0) (dJ yW (kJ (.int 49)) (dJ tV (kJ (.int 5)) (vJ 8)))) (dJ tV (vJ 8) (dJ wX (dJ gP (vJ 0) (kJ (.int 49))) (kJ (.int 3))))) 9)
def cT:AY:=(iJ (bJ (dJ AS (vJ 8) (vJ 4)) bN) ((CJ (dJ yW (vJ 9) (dJ tV (kJ (.int 3)) (vJ 6))) 9)) (JJ))
def iW:AY:=(CJ (dJ yW (vJ 7) (dJ yC (vJ 2) (dJ wX (vJ 9) (kJ (.int 26))))) 7)
def bS:AY:=zL (cS) (zL (cT) ((iW)))
def cU:AY:=(CJ (kJ (.str [])) 7)
def cW:AY:=(FJ (bJ (yJ (vJ 3) wJ) kG) (xF 8) (bS))
def cX:AY:=(BJ (eJ kH BE (vJ 5) (yJ (vJ 7) wJ)))
def fF:AY:=zL (cU) (zL (cW) ((cX)))
def jO:AF:=(iJ (bJ (dJ AS (dJ wX (vJ 0) ↑19) ↑15) bN) ((AJ (fJ 2 wC (yJ (dJ gP (vJ 0) ↑19) ↑45)))) (JJ))
def fG:AF:=(CJ (kJ (.str [97,98,99,100,101,102,103,104,105,106,107,108,109,110,111,112,113,114,115,116,117,118,119,120,121,122])) 2)
def fH:AF:=(CJ (dJ wX (dJ tV (dJ wX (dJ tV (vJ 0) (kJ (.int 69621))) (kJ (.int 2147483629))) (kJ (.int 48271))) (kJ (.int 2147483647))) 0)
def fK:AF:=(CJ (dJ yW ↑6 (dJ wX (vJ 0) (kJ (.int 7)))) 3)
def fM:AF:=(CJ (dJ wX (dJ gP (vJ 0) (kJ (.int 7))) (vJ 3)) 4)
def fN:AF:=(CJ (bJ wJ jX) 5)
def fO:AF:=(FJ (bJ ↑45 kG) (xF 6) (fF))
def fP:AF:=(iJ (bJ (dJ AS (dJ wX (dJ gP (vJ 0) (kJ (.int 49))) (kJ (.int 4))) ↑6) bN) ((EJ (dJ yW (dJ yC (vJ 5) ↑15) (dJ yC (vJ 2) (dJ wX (dJ gP (vJ 0) (kJ (.int 196))) (kJ (.int 26))))) (DJ QX (vJ 5) ↑6))) (JJ))
def qS:AF:=(AJ (vJ 5))
def cY:AF:=zL (jO) (zL (fG) (zL (fH) (zL (fK) (zL (fM) (zL (fN) (zL (fO) (zL (fP) ((qS)))))))))
def qA(ds:R0)(S:Sto):R Er:=yE (cY (yA [Ņ,ń,"_law_letters","_law_long","_law_spot",Ŋ,ŉ,"_law_word","_law_j","_law_sign"] ds) S)
def cZ:AY:=(BJ (eJ kH BE (vJ 2) (yJ (dJ wX (vJ 3) (kJ (.int 1000000))) wJ)))
def dA:AY:=(CJ (dJ gP (vJ 3) (kJ (.int 1000000))) 3)
def bT:AY:=zL (cZ) ((dA))
def dB:AY:=(CJ (dJ wX (dJ yW (dJ yW (dJ tV (vJ 5) (vJ 5)) (dJ tV (kJ (.int 48271)) (vJ 5))) (vJ 4)) (kJ (.int 2147483647))) 5)
def dC:AY:=(BJ (eJ kH BE (vJ 2) (yJ (dJ gP (dJ wX (dJ tV (vJ 5) (kJ (.int 69621))) (kJ (.int 2147483587))) (kJ (.int 16))) wJ)))
def fQ:AY:=zL (dB) ((dC))
def fR:AF:=(CJ (bJ wJ jX) 2)
def jP:AF:=(iJ (bJ (dJ AS (dJ wX (vJ 0) ↑19) ↑15) bN) (zL (CJ (dJ gP (vJ 0) ↑19) 3) (zL (FJ (bJ ↑45 kG) (xF 4) (bT)) ((AJ (vJ 2))))) (JJ))
def fS:AF:=(CJ (dJ yW (dJ wX (vJ 0) (kJ (.int 2147483629))) ↑6) 5)
def fU:AF:=(FJ (bJ ↑45 kG) (xF 4) (fQ))
def BV:AF:=(AJ (vJ 2))
def dE:AF:=zL (fR) (zL (jP) (zL (fS) (zL (fU) ((BV)))))
def yI(ds:R0)(S:Sto):R Er:=yE (dE (yA [Ņ,ń,ŏ,ŋ,ŉ,Š] ds) S)
def gV:AY:=(CJ (dJ yW (dJ yW ↑6 (dJ wX (vJ 3) (kJ (.int 3)))) (bJ (yJ (dJ AS (dJ wX (dJ gP (vJ 3) (kJ (.int 3))) (kJ (.int 5))) ↑15) wJ) Vq)) 4)
def gW:AY:=(BJ (eJ kH BE (vJ 2) (yJ (bJ (yJ (vJ 4) (yJ (bJ (yJ (vJ 4) (yJ (dJ yC (bJ (yJ ↑15 (yJ ↑6 (yJ ↑6 (yJ ↑6 (yJ ↑19 (yJ (kJ (.int 4)) wJ)))))) jX) (dJ wX (dJ gP (vJ 3) (kJ (.int 15))) (kJ (.int 6)))) wJ)) By) wJ)) xY) wJ)))
def nR:AY:=zL (gV) ((gW))
def nS:AF:=(CJ (fJ 2 yI (yJ (vJ 0) (yJ (kJ (.int 5)) wJ))) 1)
def nU:AF:=(CJ (bJ wJ jX) 2)
def nV:AF:=(FJ (bJ (tJ dN (vJ 1) mJ (bJ (dJ yW ↑6 (dJ wX (dJ yC (vJ 1) (kJ (.int 4))) (kJ (.int 4)))) IP)) IQ) (xF 3) (nR))
def oK:AF:=(AJ (bJ (yJ (vJ 2) wJ) iQ))
def mH:AF:=zL (nS) (zL (nU) (zL (nV) ((oK))))
def mI(ds:R0)(S:Sto):R Er:=yE (mH (yA [Ņ,Ũ,Ń,Š,"_law_wide"] ds) S)
def gX:AY:=(EJ (fJ 1 jN (yJ (dJ gP (vJ 2) ↑19) wJ)) (Io 2 (wH (xF 6) (wH (xF 2) vS))))
def kM:AY:=(iJ (bJ (dJ AS (dJ wX (vJ 2) ↑19) ↑6) bN) (zL (CJ (dJ yW (dJ JI (dJ wX (dJ gP (vJ 2) ↑19) (dJ JI (dJ tV ↑19 ↑30) ↑6)) ↑30) ↑6) 6) ((CJ (dJ gP (vJ 2) (dJ JI (dJ tV ↑19 ↑30) ↑6)) 2))) (JJ))
def gY:AY:=(iJ (bJ (dJ (BC true) (vJ 6) (vJ 4)) bN) ((BJ (eJ kH BE (vJ 4) (yJ (vJ 6) wJ)))) (JJ))
def xV:AY:=zL (gX) (zL (kM) ((gY)))
def kN:AZ:=(bJ (dJ (BC true) (vJ 0) (vJ 1)) bN)
def gZ:AE:=(vJ 0)
def kC:AF:=(iJ (bJ (dJ AS (dJ wX (vJ 0) ↑19) ↑15) bN) (zL (CJ (dJ gP (vJ 0) ↑19) 2) (zL (CJ (dJ yW ↑19 (dJ wX (vJ 2) (kJ (.int 3)))) 3) (zL (CJ (dJ gP (vJ 2) (kJ (.int 3))) 2) (zL (CJ (bJ wJ jX) 4) (zL (FJ (bJ (yJ (vJ 3) wJ) kG) (xF 5) (xV)) ((AJ (dJ yW (vJ 4) (tJ dN (pJ (bJ (vJ 1) IQ) (xF 0) (kN) (gZ) 1 [4]) mJ (bJ (dJ JI ↑19 (bJ (yJ ↑19 (yJ (bJ (yJ (vJ 4) wJ) kY) wJ)) By)) IP)))))))))) (JJ))
def nW:AF:=(CJ (dJ yW (dJ JI (dJ wX (vJ 0) (dJ JI (dJ tV ↑19 ↑30) ↑19)) ↑30) ↑6) 7)
def nY:AF:=(CJ (bJ (yJ (vJ 7) (yJ (dJ yW (vJ 7) ↑6) (yJ (dJ yC (vJ 1) ↑15) (yJ (dJ yC (vJ 1) ↑6) wJ)))) jX) 8)
def nZ:AF:=(CJ (dJ wX (dJ gP (vJ 0) (kJ (.int 5))) (kJ (.int 4))) 9)
def aB:AF:=(AJ (tJ dN (dJ yW (tJ dN (vJ 8) (bJ (vJ 9) IP) mJ) (tJ dN (vJ 8) mJ (bJ (vJ 9) IP))) mJ (bJ (dJ yW ↑19 (dJ wX (vJ 0) (kJ (.int 3)))) IP)))
def gK:AF:=zL (kC) (zL (nW) (zL (nY) (zL (nZ) ((aB)))))
def mK(ds:R0)(S:Sto):R Er:=yE (gK (yA [Ņ,Ŋ,ŋ,ń,Ő,ŉ,"_law_value",Š,"_law_pool","_law_turn"] ds) S)
def gM:AF:=(iJ (bJ (dJ AS (dJ wX (vJ 0) (kJ (.int 6))) ↑15) bN) ((AJ (bJ (yJ (kJ (.str [105,115])) (yJ (dJ yC (vJ 2) (dJ wX (dJ gP (vJ 0) (kJ (.int 6))) (bJ (yJ (vJ 2) wJ) kY))) wJ)) xY))) (JJ))
def tK:AF:=(AJ (bJ (yJ (kJ (.str [118,97,114])) (yJ (dJ yC (vJ 1) (dJ wX (dJ gP (vJ 0) (kJ (.int 6))) (bJ ↑45 kY))) wJ)) xY))
def aS:AF:=zL (gM) ((tK))
def aT(ds:R0)(S:Sto):R Er:=yE (aS (yA rS ds) S)
def kZ:AY:=(iJ (bJ (dJ AS (dJ yC (vJ 4) ↑15) (kJ (.str [118,97,114]))) bN) ((EJ (kJ (.bl true)) (DJ vZ (vJ 1) (dJ yC (vJ 4) ↑6)))) (JJ))
def kO:AY:=(kZ)
def pA:AY:=(FJ (bJ (vJ 3) Iq) (xF 4) (kO))
def fV:AY:=(pA)
def bA:AF:=(CJ zJ 1)
def bB:AF:=(FJ (bJ (vJ 0) IQ) (Io 2 (wH (xF 2) (wH (xF 3) vS))) (fV))
def fW:AF:=(AJ (bJ ↑45 MR))
def aC:AF:=zL (bA) (zL (bB) ((fW)))
def aD(ds:R0)(S:Sto):R Er:=yE (aC (yA [ō,ŏ,"_law_t","_law_terms","_law_term_here"] ds) S)
def dP:AZ:=uJ
def jA:AE:=(dJ wX (dJ yW (dJ gP (dJ yC (vJ 1) ↑15) (kJ (.int 4))) (vJ 0)) (bJ (yJ (vJ 2) wJ) kY))
def dQ:AZ:=uJ
def jB:AE:=(fJ 3 aT (yJ (vJ 0) (yJ (vJ 1) (yJ (vJ 2) wJ))))
def jC:AY:=(CJ (fJ 2 yI (yJ (dJ yC (vJ 0) (dJ yW ↑19 (vJ 7))) (yJ (kJ (.int 4)) wJ))) 8)
def jD:AY:=(CJ (dJ yC (dJ yC (vJ 1) (dJ yC (vJ 5) (vJ 7))) ↑15) 9)
def jE:AY:=(BJ (eJ kH BE (vJ 6) (yJ (bJ (yJ (dJ yC (vJ 5) (vJ 7)) (yJ (bJ (yJ (pJ (bJ (tJ dN (vJ 8) mJ (bJ (vJ 9) IP)) IQ) (xF 0) (dQ) (jB) 1 [2,3]) wJ) iQ) wJ)) xY) wJ)))
def kP:AY:=zL (jC) (zL (jD) ((jE)))
def jF:AZ:=(bJ (dJ AS (dJ wX (dJ gP (dJ yC (vJ 1) ↑6) (dJ yC (bJ (yJ ↑6 (yJ (kJ (.int 3)) (yJ (kJ (.int 9)) (yJ (kJ (.int 27)) wJ)))) jX) (vJ 0))) (kJ (.int 3))) ↑6) bN)
def jG:AE:=(dJ yC (vJ 2) (vJ 0))
def bC:AF:=(CJ (dJ yW ↑6 (dJ wX (dJ yC (vJ 0) ↑15) (bJ ↑45 kY))) 4)
def bD:AF:=(CJ (pJ (bJ (yJ (bJ ↑45 kY) wJ) kG) (xF 0) (dP) (jA) 1 [0,1]) 5)
def bE:AF:=(iJ (bJ (dJ AS (dJ wX (dJ gP (dJ yC (vJ 0) ↑15) (kJ (.int 16))) ↑19) ↑6) bN) ((BJ (gJ kH Jb (vJ 5)))) (JJ))
def bF:AF:=(CJ (bJ wJ jX) 6)
def bG:AF:=(FJ (bJ (yJ (vJ 4) wJ) kG) (xF 7) (kP))
def bH:AF:=(CJ (fJ 1 aD (yJ (vJ 6) wJ)) 10)
def bI:AF:=(CJ (pJ (bJ (yJ (bJ (yJ (vJ 10) wJ) kY) wJ) kG) (xF 0) (jF) (jG) 1 [0,10]) 11)
def bK:AF:=(iJ (bJ (dJ AS (dJ wX (dJ gP ↑13 (kJ (.int 81))) ↑19) ↑6) bN) ((BJ (gJ kH Jb (vJ 11)))) (JJ))
def bL:AF:=(AJ (bJ (yJ (bJ (yJ (tJ dN (vJ 11) mJ (bJ ↑19 IP)) wJ) iQ) (yJ (bJ (yJ (vJ 6) wJ) iQ) wJ)) xY))
def aF:AF:=zL (bC) (zL (bD) (zL (bE) (zL (bF) (zL (bG) (zL (bH) (zL (bI) (zL (bK) ((bL)))))))))
def gG(ds:R0)(S:Sto):R Er:=yE (aF (yA [Ť,Ń,Ō,ň,ń,"_law_order",ō,ŉ,Ũ,"_law_wide",ŏ,Ş] ds) S)
def dF:AZ:=(bJ (dJ yC (vJ 1) (vJ 0)) aZ)
def iY:AE:=(vJ 0)
def qT:AF:=(CJ (bJ (yJ (bJ (vJ 0) (tW XNS "Double")) (yJ (bJ (vJ 0) (tW XNS "Ring")) (yJ (bJ (vJ 0) (tW XNS "NotPlain")) (yJ (bJ (vJ 0) (tW XNS "TooGreat")) wJ)))) jX) 1)
def qU:AF:=(CJ (dJ yW (vJ 1) (bJ (yJ (bJ (vJ 0) (tW XNS "NoText")) (yJ (bJ (vJ 0) (tW XNS "NoPlace")) (yJ (bJ (vJ 0) (tW XNS "NoTable")) (yJ (bJ (vJ 0) (tW XNS "NoRule")) wJ)))) jX)) 1)
def qV:AF:=(CJ (dJ yW (vJ 1) (bJ (yJ (bJ (vJ 0) (tW XNS "NoRow")) (yJ (bJ (vJ 0) (tW XNS "Twice")) (yJ (bJ (vJ 0) (tW XNS "NoQuestion")) (yJ (bJ (vJ 0) (tW XNS "TooWide")) wJ)))) jX)) 1)
def BW:AF:=(AJ (pJ (bJ (yJ (kJ (.int 12)) wJ) kG) (xF 0) (dF) (iY) 1 [1]))
def vI:AF:=zL (qT) (zL (qU) (zL (qV) ((BW))))
def gA(ds:R0)(S:Sto):R Er:=yE (vI (yA [ő,ŏ] ds) S)
def jQ:AF:=(iJ (sJ (qJ (bJ (bJ (yJ (vJ 0) (yJ (kJ (.typ "tuple")) wJ)) iG) aZ)) (sJ (bJ (dJ QT (bJ (yJ (vJ 0) wJ) kY) ↑19) bN) (bJ (dJ (BC true) (dJ yC (vJ 0) ↑15) (bJ (yJ (kJ (.str [105,115])) (yJ (kJ (.str [118,97,114])) wJ)) xY)) bN))) ↑26 (JJ))
def jR:AF:=(iJ (bJ (dJ AS (dJ yC (vJ 0) ↑15) (kJ (.str [105,115]))) bN) ((AJ (oJ (bJ (yJ ↑13 (yJ (kJ (.typ "str")) wJ)) iG) (aJ (bJ (yJ ↑13 (yJ (kJ (.typ "int")) wJ)) iG) (nJ (bJ (yJ ↑13 (yJ (kJ (.typ "bool")) wJ)) iG)))))) (JJ))
def iZ:AF:=(AJ (aJ (bJ (yJ ↑13 (yJ (kJ (.typ "str")) wJ)) iG) (oJ (dJ XG (vJ 1) (kJ .non)) (dJ (BC false) ↑13 (vJ 1)))))
def CA:AF:=zL (jQ) (zL (jR) ((iZ)))
def xC(ds:R0)(S:Sto):R Er:=yE (CA (yA eI ds) S)
def wD:AZ:=(qJ (bJ (fJ 2 xC (yJ (vJ 0) (yJ (kJ .non) wJ))) aZ))
def gB:AE:=(vJ 0)
def bU:AF:=(iJ (sJ (bJ (dJ QT (bJ (yJ (vJ 0) wJ) kY) (kJ (.int 4))) bN) (sJ (qJ (bJ (bJ (yJ ↑13 (yJ (kJ (.typ "int")) wJ)) iG) aZ)) (bJ (bJ (yJ ↑13 (yJ (kJ (.typ "bool")) wJ)) iG) aZ))) ↑26 (JJ))
def bV:AF:=(iJ (sJ (qJ (bJ (jJ zAI XF ↑15 ↑13 (bJ ↑45 kY)) bN)) (qJ (bJ (bJ (yJ (dJ yC (vJ 0) ↑19) (yJ (kJ (.typ "tuple")) wJ)) iG) aZ))) ↑26 (JJ))
def bW:AF:=(iJ (bJ (dJ QT (bJ (yJ (dJ yC (vJ 0) ↑19) wJ) kY) (dJ yC (dJ yC (vJ 1) ↑13) ↑15)) bN) ↑26 (JJ))
def bX:AF:=(AJ (dJ AS (pJ (bJ (dJ yC (vJ 0) ↑19) Iq) (xF 0) (wD) (gB) 1 []) (bJ wJ jX)))
def aL:AF:=zL (bU) (zL (bV) (zL (bW) ((bX))))
def gC(ds:R0)(S:Sto):R Er:=yE (aL (yA aI ds) S)
def xH:AZ:=(bJ (dJ AS (dJ yC (vJ 0) ↑15) (kJ (.str [118,97,114]))) bN)
def wM:AE:=↑13
def wN:AY:=(CJ (dJ yW (vJ 4) ↑6) 4)
def wO:AY:=(iJ (sJ (qJ (bJ (bJ (yJ (vJ 0) (yJ (kJ (.typ "tuple")) wJ)) iG) aZ)) (sJ (bJ (dJ QT (bJ (yJ (vJ 0) wJ) kY) (kJ (.int 4))) bN) (bJ (dJ gtF (vJ 4) (kJ (.int 60))) bN))) ↑26 (JJ))
def wQ:AY:=(iJ (bJ (dJ AS (dJ yC (vJ 0) ↑15) (kJ (.str [115,97,109,101]))) bN) ((iJ (sJ (qJ (bJ (fJ 2 xC (yJ ↑13 (yJ (vJ 3) wJ))) aZ)) (qJ (bJ (fJ 2 xC (yJ (dJ yC (vJ 0) ↑19) (yJ (vJ 3) wJ))) aZ))) ↑26 (JJ))) ((iJ (sJ (bJ (dJ (BC true) (dJ yC (vJ 0) ↑15) (bJ (yJ (kJ (.str [115,111,109,101])) (yJ (kJ (.str [101,97,99,104])) wJ)) xY)) bN) (qJ (bJ (fJ 2 gC (yJ (vJ 0) ↑45)) aZ))) ↑26 ((CJ (dJ yW (vJ 3) (pJ (bJ (dJ yC (vJ 0) ↑19) Iq) (xF 0) (xH) (wM) 1 [])) 3)))))
def wR:AY:=(CJ (dJ yC (vJ 0) (kJ (.int 3))) 0)
def xX:AY:=zL (wN) (zL (wO) (zL (wQ) ((wR))))
def xQ:AZ:=(bJ (dJ QT (vJ 0) (bJ (yJ (kJ (.str [121,101,115])) wJ) xY)) bN)
def dR:AF:=(CJ (bJ (yJ (vJ 2) wJ) LT) 3)
def pB:AF:=(CJ ↑6 4)
def dS:AF:=(λa S=>jY (xQ) (xX) 10000 a S)
def pC:AF:=(AJ (kJ (.bl true)))
def sF:AF:=zL (dR) (zL (pB) (zL (dS) ((pC))))
def bM(ds:R0)(S:Sto):R Er:=yE (sF (yA [Ś,Ń,Ş,"_law_bound",ń] ds) S)
def aO:AZ:=uJ
def gD:AE:=(fJ 3 aT (yJ (vJ 0) (yJ (vJ 1) (yJ (vJ 2) wJ))))
def uD:AF:=(EJ (vJ 0) (Io 2 (wH (xF 5) (wH (xF 6) vS))))
def lB:AF:=(CJ (dJ yC (dJ yC (vJ 6) (dJ wX (vJ 2) (bJ (yJ (vJ 6) wJ) kY))) ↑15) 7)
def lE:AF:=(CJ (fJ 2 yI (yJ (vJ 2) (yJ (kJ (.int 4)) wJ))) 8)
def lF:AF:=(CJ (bJ (yJ (pJ (bJ (tJ dN (vJ 8) mJ (bJ (dJ yC (dJ yC (vJ 1) (vJ 7)) ↑15) IP)) IQ) (xF 0) (aO) (gD) 1 [3,4]) wJ) iQ) 9)
def lG:AF:=(CJ (dJ wX (dJ gP (vJ 2) (kJ (.int 4))) (dJ yW (bJ (yJ (vJ 6) wJ) kY) ↑6)) 10)
def lH:AF:=(AJ (bJ (yJ (vJ 5) (yJ (dJ yW (dJ yW (tJ dN (vJ 6) mJ (bJ (vJ 10) IP)) (bJ (yJ (bJ (yJ (vJ 7) (yJ (vJ 9) wJ)) xY) wJ) xY)) (tJ dN (vJ 6) (bJ (vJ 10) IP) mJ)) wJ)) xY))
def fX:AF:=zL (uD) (zL (lB) (zL (lE) (zL (lF) (zL (lG) ((lH))))))
def bY(ds:R0)(S:Sto):R Er:=yE (fX (yA [ņ,Ń,Ņ,Ō,ň,Ş,ō,"_law_t",Ũ,"_law_terms","_law_at"] ds) S)
def lK:AZ:=uJ
def lL:AE:=(dJ yC (vJ 0) ↑15)
def dG:AY:=(iJ (bJ (dJ (BC false) (dJ yC (dJ yC (vJ 0) (vJ 1)) ↑15) (pJ (bJ (tJ dN (vJ 0) mJ (bJ (vJ 1) IP)) Iq) (xF 0) (lK) (lL) 1 [])) bN) ((AJ (vJ 1))) (JJ))
def bZ:AY:=(dG)
def fY:AF:=(FJ (bJ (yJ (bJ (yJ (vJ 0) wJ) kY) wJ) kG) (xF 1) (bZ))
def CB:AF:=(AJ (kJ .non))
def qB:AF:=zL (fY) ((CB))
def fZ(ds:R0)(S:Sto):R Er:=yE (qB (yA [ō,ŉ] ds) S)
def oO:AY:=(CJ (bJ (yJ (kJ (.str [114,101,102,117,115,101,100])) (yJ (fJ 1 gA (yJ (vJ 3) wJ)) (yJ (bJ (vJ 3) (Oa XNS)) wJ))) xY) 2)
def oP:AY:=(iJ (bJ (bJ (vJ 3) (tW XNS "Ring")) aZ) ((CJ (dJ yW (vJ 2) (bJ (yJ (bJ (vJ 3) (YQ XNS "ring")) wJ) xY)) 2)) (JJ))
def oQ:AY:=(iJ (bJ (bJ (vJ 3) (tW XNS "Double")) aZ) ((CJ (dJ yW (vJ 2) (bJ (yJ (bJ (vJ 3) (Jl XNS "place")) (yJ (bJ (yJ (bJ (vJ 3) (Jl XNS "place")) (yJ (kJ (.typ "bool")) wJ)) iG) wJ)) xY)) 2)) (JJ))
def nF:AY:=zL (oO) (zL (oP) ((oQ)))
def OW:AF:=(CJ (kJ .non) 2)
def gN:AF:=(QJ XNS 3 2 [116,111,108,100] nF 2 yB (yJ (vJ 0) ↑45))
def OX:AF:=(AJ (vJ 2))
def sG:AF:=zL (OW) (zL (gN) ((OX)))
def xR(ds:R0)(S:Sto):R Er:=yE (sG (yA IW ds) S)
def qW:AY:=(iJ (sJ (qJ (bJ (bJ (yJ (dJ yC (vJ 0) (vJ 3)) (yJ (kJ (.typ "int")) wJ)) iG) aZ)) (sJ (bJ (bJ (yJ (dJ yC (vJ 0) (vJ 3)) (yJ (kJ (.typ "bool")) wJ)) iG) aZ) (qJ (bJ (jJ zAI XF ↑15 (dJ yC (vJ 0) (vJ 3)) (vJ 2)) bN)))) ↑26 (JJ))
def qX:AY:=(iJ (bJ (dJ (BC true) (bJ (yJ (dJ yC (vJ 0) (vJ 3)) (yJ (dJ yC (vJ 0) (dJ wX (dJ yW (vJ 3) ↑6) (bJ (yJ (vJ 0) wJ) kY))) wJ)) xY) (vJ 1)) bN) ↑26 (JJ))
def jS:AY:=zL (qW) ((qX))
def uE:AF:=(iJ (sJ (qJ (bJ (bJ (yJ (vJ 0) (yJ (kJ (.typ "list")) wJ)) iG) aZ)) (sJ (bJ (dJ XF (bJ (yJ (vJ 0) wJ) kY) ↑19) bN) (bJ (dJ XF (bJ (yJ (vJ 0) wJ) MT) (bJ (yJ (vJ 0) wJ) kY)) bN))) ↑26 (JJ))
def uF:AF:=(FJ (bJ (yJ (bJ (yJ (vJ 0) wJ) kY) wJ) kG) (xF 3) (jS))
def HM:AF:=(AJ (kJ (.bl true)))
def qY:AF:=zL (uE) (zL (uF) ((HM)))
def cA(ds:R0)(S:Sto):R Er:=yE (qY (yA BM ds) S)
def RV:AZ:=uJ
def HN:AE:=(fJ 2 zX (yJ (vJ 1) (yJ (dJ yW (kJ (.int 3)) (vJ 0)) wJ)))
def UR:AF:=(CJ (fJ 2 qA (yJ (fJ 2 zX (yJ (vJ 0) (yJ ↑15 wJ))) (yJ (kJ (.int 6)) wJ))) 1)
def US:AF:=(CJ (fJ 1 mI (yJ (fJ 2 zX (yJ (vJ 0) (yJ ↑6 wJ))) wJ)) 2)
def UT:AF:=(CJ (fJ 2 mK (yJ (fJ 2 zX (yJ (vJ 0) (yJ ↑19 wJ))) (yJ (tJ dN (vJ 1) (bJ (kJ (.int 4)) IP) mJ) wJ))) 3)
def UU:AF:=(CJ (pJ (bJ (yJ (kJ (.int 6)) wJ) kG) (xF 0) (RV) (HN) 1 [0]) 4)
def UV:AF:=(CJ (tJ dN (vJ 1) mJ (bJ (dJ yC (bJ (yJ (kJ (.int 4)) (yJ ↑19 (yJ (kJ (.int 4)) (yJ (kJ (.int 3)) wJ)))) jX) (dJ wX (fJ 2 zX (yJ (vJ 0) (yJ (kJ (.int 9)) wJ))) (kJ (.int 4)))) IP)) 5)
def UW:AF:=(CJ (fJ 4 gG (yJ (vJ 4) (yJ (vJ 2) (yJ (vJ 5) (yJ (vJ 3) wJ))))) 6)
def KE:AF:=(CJ (fJ 2 xR (yJ (vJ 2) (yJ (vJ 6) wJ))) 7)
def KF:AF:=(iJ (bJ (dJ QT (fJ 2 xR (yJ (vJ 2) (yJ (vJ 6) wJ))) (vJ 7)) bN) ↑26 (JJ))
def KG:AF:=(iJ (bJ (dJ AS (dJ yC (vJ 7) ↑15) (kJ (.str [116,111,108,100]))) bN) ((iJ (sJ (bJ (dJ QU (fJ 2 sV (yJ (vJ 2) (yJ (vJ 6) wJ))) (kJ .non)) bN) (qJ (bJ (fJ 3 bM (yJ (dJ yC (vJ 7) ↑6) (yJ (vJ 2) (yJ (dJ yC (vJ 6) ↑15) wJ)))) aZ))) ↑26 (JJ))) ((iJ (sJ (bJ (dJ QT (tJ dN (vJ 7) (bJ ↑6 IP) (bJ (kJ (.int 3)) IP)) (bJ (yJ (bJ (yJ ↑6 wJ) jX) (yJ (kJ (.bl true)) wJ)) xY)) bN) (bJ (dJ XG (fJ 2 sV (yJ (vJ 2) (yJ (vJ 6) wJ))) (kJ .non)) bN)) ↑26 ((iJ (qJ (bJ (fJ 3 cA (yJ (dJ yC (vJ 7) (kJ (.int 3))) (yJ (fJ 2 pX (yJ (vJ 2) (yJ (vJ 6) wJ))) (yJ (bJ (yJ (dJ yC (vJ 6) ↑6) wJ) kY) wJ)))) aZ)) ↑26 (zL (CJ (bJ (yJ (dJ yC (vJ 7) (kJ (.int 3))) wJ) LT) 8) (zL (BJ (eJ kH BE (dJ yC (vJ 7) (kJ (.int 3))) (yJ ↑15 wJ))) ((iJ (bJ (dJ QT (dJ yC (fJ 2 xR (yJ (vJ 2) (yJ (vJ 6) wJ))) (kJ (.int 3))) (vJ 8)) bN) ↑26 (JJ))))))))))
def uG:AF:=(iJ (bJ (dJ AS (bJ (yJ (dJ yC (vJ 6) ↑6) wJ) kY) (kJ (.int 4))) bN) ((AJ (kJ (.bl true)))) (JJ))
def FX:AF:=(CJ (fJ 5 bY (yJ (vJ 6) (yJ (vJ 2) (yJ (dJ gP (fJ 2 zX (yJ (vJ 0) (yJ (kJ (.int 9)) wJ))) (kJ (.int 4))) (yJ (vJ 5) (yJ (vJ 3) wJ)))))) 9)
def MZ:AF:=(AJ (dJ AS (fJ 2 xR (yJ (vJ 2) (yJ (vJ 9) wJ))) (bJ (yJ (kJ (.str [114,101,102,117,115,101,100])) (yJ (bJ (yJ ↑15 wJ) jX) (yJ (kJ (.bl true)) (yJ (fJ 1 fZ (yJ (dJ yC (vJ 9) ↑6) wJ)) (yJ (kJ (.bl false)) wJ))))) xY)))
def A6:AF:=zL (UR) (zL (US) (zL (UT) (zL (UU) (zL (UV) (zL (UW) (zL (KE) (zL (KF) (zL (KG) (zL (uG) (zL (FX) ((MZ))))))))))))
def YT(ds:R0)(S:Sto):R Er:=yE (A6 (yA Pw ds) S)
section
variable{r:R α}
theorem ev_v(e:ρ[i]? =some (some d)):vJ i ρ S=#[d,S,1]:=by unfold vJ;rw[e];rfl
def ev_b{f:Rho->Sto->R β}(e:f ρ S=.ok a S1)(k:F a S1=r):bJ f F ρ S=r:=by unfold bJ;rw[e];exact k
def ev_d(e:f ρ S=.ok p S1)(a:g ρ S1=.ok q S2)(k:F p q S2=z):dJ F f g ρ S=z:=by unfold dJ;rw[e,aX,a];exact k
def ev_a(e:f ρ S=.ok p S1)(k:(O5 p S1 λS=>g ρ S)=z):aJ f g ρ S=z:=by unfold aJ;rw[e];exact k
def ev_o(e:f ρ S=.ok p S1)(k:(orF p S1 λS=>g ρ S)=z):oJ f g ρ S=z:=by unfold oJ;rw[e];exact k
def ev_i{f g:Rho->Sto->R α}(e:c ρ S=.ok k S1)(h:(if k=true then f ρ S1 else g ρ S1)=r):iJ c f g ρ S=r:=by unfold iJ;rw[e];exact h
def ev_t{g h:Rho->Sto->R (Option Int)}(e:f ρ S=.ok p S1)(c:g ρ S1=.ok a S2)(d:h ρ S2=.ok b S3)(k:F p a b S3=z):tJ F f g h ρ S=z:=by unfold tJ;rw[e,aX,c,aX,d];exact k
def ev_f(e:a ρ S=.ok rs S1)(k:zQ n F rs S1=z):fJ n F a ρ S=z:=by unfold fJ;rw[e];exact k
def ev_e(e:f ρ S=.ok p S1)(c:t p S1=true)(b:a ρ S1=.ok rs S2)(k:F p rs S2=z):eJ t F f a ρ S=z:=by unfold eJ;rw[e,aX,iP c,b];exact k
def ev_p{g:↑24}(e:i ρ S=.ok k S1)(a:k.ds.length<1000000)(b:yG g c f (AM n I ρ) k.gs k.ds S1=.ok o S2)(h:#[o,S2,2]=z):pJ i g c f n I ρ S=z:=by unfold pJ;rw[e,aX,iP a,b];exact h
theorem ev_q{f:AZ}(e:f ρ S=.ok k S1):qJ f ρ S=.ok (!k) S1:=by unfold qJ;rw[e];rfl
def ev_r{f g:AZ}{r:R Bool}(e:f ρ S=.ok k S1)(h:(if k=true then g ρ S1 else .ok false S1)=r):rJ f g ρ S=r:=by unfold rJ;rw[e];exact h
def ev_s{f g:AZ}{r:R Bool}(e:f ρ S=.ok k S1)(h:(if k=true then .ok true S1 else g ρ S1)=r):sJ f g ρ S=r:=by unfold sJ;rw[e];exact h
theorem ev_y{g:↑43}(e:f ρ S=.ok p S1)(a:g ρ S1=.ok l S2):yJ f g ρ S=.ok (p::l) S2:=by unfold yJ;rw[e,aX,a];rfl
def ev_A(e:f ρ S=.ok p S1)(k:.ok (.ret p) S1=y):AJ f ρ S=y:=by unfold AJ;rw[e];exact k
def ev_B(e:f ρ S=.ok p S1)(k:#[ρ,S1,0]=y):BJ f ρ S=y:=by unfold BJ;rw[e];exact k
def ev_C(e:f ρ S=.ok p S1)(k:JH ρ i p S1=y):CJ f i ρ S=y:=by unfold CJ;rw[e];exact k
def ev_E{g:↑24}(e:f ρ S=#[d,S1,1])(k:g d ρ S1=.ok ρ' S2)(h:#[ρ',S2,0]=y):EJ f g ρ S=y:=by unfold EJ;rw[e];show(g d ρ S1).bind _=_;rw[k];exact h
def ev_F{g:↑24}(e:i ρ S=.ok k S1)(h:jK g b k.gs k.ds ρ S1=y):FJ i g b ρ S=y:=by unfold FJ;rw[e];exact h
def zDG(h:a=r):(if true=true then a else b)=r:=h
def zDH(h:b=r):(if false=true then a else b)=r:=h
def zDI[Decidable c](d:c)(h:a=r):(if decide c=true then a else b)=r:=by rw[iP (dT0 d)];exact h
def zDJ[Decidable c](d: ¬c)(h:b=r):(if decide c=true then a else b)=r:=by rw[dF0 d];exact h
end
section
def modA(h:0<b:=by first |decide|omega):wX #[a,5] #[b,5] S=.ok #[a % b,5] S:=mod_lit h a S
def divA(h:0<b/\b<1073741824:=by first |decide|omega):gP #[a,5] #[b,5] S=.ok #[a / b,5] S:=yF h.1 h.2 a S
def mulA(h: -(2 ^ 64)<a/\a<2 ^ 64:=by decide):tV #[a,5] #[b,5] S=.ok #[a * b,5] S:=eE h b S
end
set_option bootstrap.genMatcherCode true in
local macro_rules
 | `(tactic|exists 7,$[$hs],*)=>`(tactic|first
  |(with_reducible first $[|exact $hs ..]*)
  |((with_reducible first |apply ev_v|apply ev_b|apply ev_d|apply ev_y|apply ev_f|apply ev_C|apply ev_A|apply ev_i|apply zDG|apply zDH|apply ev_F|apply ev_p|apply ev_e|apply ev_B|apply ev_r|apply ev_s|apply ev_q|apply ev_a|apply ev_o|apply ev_n|apply ev_t|apply ev_g|apply ev_E|apply ev_D)<;>exists 7,$[$hs],*)
  |(with_reducible first |exact eq_int .. |exact tup2 .. |exact zCJ .. |exact zCH .. |exact lst1 .. |exact T2 .. |exact zCI ..)
  |(with_reducible show wX _ _ _=_);exact modA
  |(with_reducible show gP _ _ _=_);exact divA
  |(with_reducible show tV _ _ _=_);(first |exact mulA|exact mulB)
  |(with_reducible show kG _ _=_);exact LY (by omega)
  |(with_reducible show yG _ _ _ _ _ _ _=_);(first $[|exact $hs]*)
  |(with_reducible show jK _ _ _ _ _ _=_);(first $[|exact $hs]*)
  |(with_reducible first $[|exact of_eq_true $hs]* $[|refine zDI $hs ?_]* $[|refine zDJ $hs ?_]* $[|refine(iP $hs).trans ?_]* $[|refine(iN0 $hs).trans ?_]*)<;>exists 7,$[$hs],*
  |exact rfl)
section
variable(K F:Nat->List (List Nat))(n:Nat)
inductive Kn(i:Nat):List Nat->Prop
 |key {x:Db}:x∈K i->Kn i x
 |step {x:Db} (j:Nat):j<n->j≠i->(∀y,y∈K j->Kn i y)->x∈F j->Kn i x
inductive Rc(i:Nat):Nat->Prop
 |self:Rc i i
 |step {x:Db} (j k:Nat):Rc i j->k<n->x∈F j->x∈F k-> ¬Kn K F n i x->Rc i k
end
section
variable{K:Nat->List (List Nat)}
def Xo(h:Rc K F n a b)(c:b≠a): ∃z,z∈F b/\ ¬Kn K F n a z:=by
 cases h with
 |self=>exact absurd rfl c
 |step j k hj hk h1 h2 h3=>exact Z8 _ h2 h3
def Xp(s: ∀j,j<n-> ∀y,y∈K j->y∈F j)(u:a<n)(o:Rc K F n a b)(r:b≠a)(w:Kn K F n a x): ∀j,Rc K F n b j->x∈F j-> ¬Kn K F n b x->Rc K F n b a:=by
 induction w with
 |key h=>exact λj q k i=>.step j a q u k (s a u _ h) i
 |@step x m hm hma hall hxm ih=>
  intro j q k i;by_cases c:m=b
  .subst c;refine(Xo o r).a λz A v=>?_;exact absurd (.step m hm hma hall A) v
  .by_cases d: ∃y,y∈K m/\ ¬Kn K F n b y
   .refine d.a λy e p=>?_;exact ih y e m (.step j m q hm k hxm i) (s m hm y e) p
   .exact absurd (.step m hm c (λy e=>Classical.byContradiction λz=>d (Z8 y e z)) hxm) i
def X2(m: ∀j,j<n-> ∀y,y∈K j->y∈F j)(o:a<n)(d:Rc K F n a b)(e:b≠a)(h:Rc K F n b c):Rc K F n a c\/Rc K F n b a:=by
 induction h with
 |self=>exact .inl d
 |@step x j k hj hk h1 h2 h3 ih=>
  rcases ih with ih|ih
  .by_cases i:Kn K F n a x
   .exact .inr (Xp m o d e i j hj h1 h3)
   .exact .inl (.step j k ih hk h1 h2 i)
  .exact .inr ih
end
def Xq(h:Iv 0 b)(a)(S):gP #[a,5] #[b,5] S=.ok #[a / b,5] S:=iP h
def dH(b:S[l]? =#[ds,2])(a:↑12<1000000):BE #[l,1] [.val d] S=#[.non,S.set l (.lst (ds++[d])),1]:=by show FN #[l,1] S (λds=>if ↑12<sizeLine then some _ else none)=_;unfold FN;dsimp only;rw[b];dsimp only;rw[iP (é a (fits (à _)))]
theorem xT(a:S[l]? =#[ds,2]):kH #[l,1] S=true:=by unfold kH;rw[nB a];rfl
def Py(b:S[l]? =#[ds,2])(a:Af ↑12 k=some j):QX #[l,1] #[k,5] d ρ S=.ok ρ (S.set l (.lst (ds.set j d))):=by unfold QX;dsimp only;rw[b];dsimp only;rw[a]
def get_set{S:Sto}(h:S[l]? =some o):(S.set l o')[l]? =some o':=č (gS.mp h).1
def yH{S:Sto}(h:l≠m):(S.set l o')[m]? =S[m]? :=Ĉ h
def HP(a:S[l]? =#[ds,2]):iQ [#[l,1]] S=.ok #[ds,6] S:=by show(match cE S _ with |some ds=>R.ok _ S|none=>.no)=_;rw[nB a]
theorem iA(ds)(S):kY [#[ds,6]] S=.ok #[↑12,5] S:=rfl
theorem vK(gf)(ρ)(d)(S):Vb gf ρ (.val d) S=(gf d ρ S).bind λρ' m=>#[ρ',m,0]:=rfl
noncomputable def tbl(p:Int×Int):MV:=.tup [.int p.1,.int p.2]
mutual
def pd:MV->Bool
 |.int _=>true
 |.str _=>true
 |.tup ds=>UX ds
 |_=>false
def UX:List MV->Bool
 |[]=>true
 |d::ds=>pd d&&UX ds
end
mutual
def KH:MV->Nat
 |.tup ds=>OY ds+1
 |_=>0
def OY:List MV->Nat
 |[]=>0
 |d::ds=>max (KH d) (OY ds)
end
def gT(ds):pd (.tup ds)=UX ds:=by rw[pd]
def Fj:UX []=true:=by rw[UX]
def yS(d)(ds):UX (d::ds)=(pd d&&UX ds):=by rw[UX]
def sH(ds):KH (.tup ds)=OY ds+1:=by rw[KH]
def aU(d)(ds):OY (d::ds)=max (KH d) (OY ds):=by rw[OY]
def HQ(i):pd (.int i)=true:=by rw[pd]
def tL(i):pd (.str i)=true:=by rw[pd]
def sI(i):KH (.int i)=0:=by simp[KH]
def dI(i):KH (.str i)=0:=by simp[KH]
theorem sK: ∀{ds},(∀d∈ds,pd d=true)->UX ds=true
 |[],_=>Fj
 |d::ds,h=>by rw[yS,h d mF0,sK λe m=>h e (mO _ m)];rfl
theorem UY: ∀{ds},UX ds=true-> ∀d∈ds,pd d=true
 |[],_,d,h=>by simp at h
 |e::ds,hp,d,h=>by
  rw[yS,aE]at hp;rcases mC.mp h with rfl|h
  .exact hp.1
  .exact UY hp.2 d h
theorem YU: ∀{ds}, ∀d∈ds,KH d<=OY ds
 |[],d,h=>by simp at h
 |e::ds,d,h=>by
  rcases mC.mp h with rfl|h
  .exact Nat.le_max_left _ _
  .exact í (YU d h) (Nat.le_max_right _ _)
def YV(h:pd d=true):(∃i,d=.int i)\/(∃x,d=.str x)\/ ∃ds,d=.tup ds/\UX ds=true:=by
 cases d with
 |int i=>exact .inl ⟨i,rfl⟩
 |str x=>exact .inr (.inl ⟨x,rfl⟩)
 |tup ds=>exact .inr (.inr ⟨ds,rfl,by rw[<-gT];exact h⟩)
 |_=>rw[pd]at h<;>first |cases h|(intros;simp)
def dec_is[Decidable p][Decidable q](h:p↔q):decide p=decide q:=by
 by_cases a:q
 .rw[dT0 a,dT0 (h.mpr a)]
 .rw[dF0 a,dF0 λz=>a (h.mp z)]
theorem YW: ∀{ds es},(∀d∈ds, ∀f∈es,e d f=some (decide (d=f)))-> ∃bs,rE e ds es=some bs/\(bs.all id&&↑12==es.length)=decide (ds=es)
 |[],[],_=>⟨[],rfl,by simp⟩
 |[],_::_,_=>⟨[],rfl,by simp⟩
 |_::_,[],_=>⟨[],rfl,by simp⟩
 |d::ds,f::es,h=>by
  refine(YW λa j b i=>h a (mO _ j) b (mO _ i)).a λbs m q=>?_;refine⟨decide (d=f)::bs,?_,?_⟩
  .unfold rE;rw[h d mF0 f mF0,m];rfl
  .by_cases c:d=f
   .subst c;rw[List.all_cons,dT0 rfl];simp only[id,Bool.true_and,lC0];rw[show(↑12+1==es.length+1)=(↑12==es.length) by simp,q];exact dec_is (by simp)
   .rw[dF0 c];rw[dF0 (λz=>c (List.cons.inj z).1)];rfl
theorem NA: ∀ n {d e},pd d=true->pd e=true->KH d<n->eqv S n d e=some (decide (d=e))
 |0,d,e,_,_,h=>by lia
 |n+1,d,e,hd,he,h=>by
  rcases YV hd with⟨i,rfl⟩|⟨x,rfl⟩|⟨ds,rfl,pds⟩<;>rcases YV he with⟨j,rfl⟩|⟨y,rfl⟩|⟨es,rfl,pes⟩
  .rw[lR];exact congrArg some (dec_is (by simp))
  .rw[R8,dF0 (by simp)]
  .rw[dF0 (by simp)];rfl
  .rw[R9,dF0 (by simp)]
  .rw[FO];exact congrArg some (dec_is (by simp))
  .rw[dF0 (by simp)];rfl
  .rw[dF0 (by simp)];rfl
  .rw[dF0 (by simp)];rfl
  .rw[sH]at h;obtain⟨bs,m,q⟩:=YW λa c b k=>NA n (UY pds a c) (UY pes b k) (by have:=YU a c;lia);show((rE _ ds es).map λbs=>bs.all id&&↑12==es.length)=_;rw[m];show some (bs.all id&&↑12==es.length)=_;rw[q];exact congrArg some (dec_is (by simp))
theorem FY(hd:pd d=true): ∀{ys},(∀y∈ys,pd y=true/\KH y<40)->XN S zO d ys=some (ys.map λy=>decide (y=d))
 |[],_=>rfl
 |y::ys,h=>by have m:=h y mF0;unfold XN;rw[NA zO m.1 hd (by unfold zO;exact m.2),FY hd λz a=>h z (mO _ a)];rfl
theorem le_int(i j)(S):zAI #[i,5] #[j,5] S=#[.bl (decide (i<=j)),S,1]:=rfl
theorem Pz(i)(S):iG [#[i,5],.val (.typ "int")] S=#[.bl true,S,1]:=rfl
theorem Ck(i)(S):iG [#[i,5],.val (.typ "bool")] S=#[.bl false,S,1]:=rfl
def FZ(c:rs.length=n)(a:F (zP rs S).1 (zP rs S).2=#[.bl b,S,1]):zQ n F rs S=#[.bl b,S,1]:=iS c a (Ee _ _) (λl=>by simp)
def SqM(S:Sto)(m:MV)(ds:R0):Prop:=m=.tup ds\/ ∃l,m=.loc l/\S[l]? =#[ds,2]
def YX(b:rs.length=n)(d:zP rs S=(as,S2))(e:F as S2=.ok r (S++T))(c:r=.new ds\/ ∃l,r=#[l,1]/\↑0<=l/\(S++T)[l]? =#[ds,2])(h:DI ↑0 ds):zQ n F rs S=#[ds,S,2]:=by
 have a:F (zP rs S).1 (zP rs S).2=.ok r (S++T):=by rw[d];exact e
 rcases c with rfl|⟨l,rfl,h1,h2⟩
 .exact gF b a h
 .exact BF b a h1 h2 h
theorem Xr(neg)(p)(l)(S):BC neg p #[l,1] S=BB neg p #[l,1] S:=by
 unfold BC;split
 .rename_i h;cases h
 .rfl
def mL(neg)(b:S[l]? =#[ys,2])(hd:pd d=true)(h: ∀y∈ys,pd y=true/\KH y<40):BC neg (.val d) #[l,1] S=#[.bl (if neg=true then !decide (d∈ys)else decide (d∈ys)),S,1]:=by
 have e:itemsOf S #[l,1]=some ys:=by unfold itemsOf;exact nB b
 rw[Xr];unfold BB;rw[e];dsimp only;rw[FY hd h];dsimp only
 have c:(ys.map λy=>decide (y=d)).any id=decide (d∈ys):=by
  rw[List.any_map];by_cases a:d∈ys
  .rw[dT0 a,ı];exact⟨d,a,by simp⟩
  .rw[dF0 a];rw[List.any_eq_false];intro y i;simp only[Function.comp,id,decide_eq_true_eq];rintro rfl;exact a i
 rw[c]
theorem gt_int(i j)(S):gtF #[i,5] #[j,5] S=#[.bl (decide (j<i)),S,1]:=rfl
noncomputable abbrev JQ:List Nat:=[118,97,114]
noncomputable abbrev IS:List Nat:=[105,115]
def wY(d:MV):Prop:=(∃x,d=.tup [.str JQ,.str x])\/ ∃v,((∃i,v=.int i)\/ ∃x,v=.str x)/\d=.tup [.str IS,v]
mutual
theorem AG{n:Nat}: ∀{d:MV},pd d=true->lo n d
 |.int i,_=>mY n i
 |.str x,_=>GZ n x
 |.tup ds,h=>uT (Qa (by rw[gT]at h;exact h))
 |.non,_=>LX n
 |.bl b,_=>Ee n b
 |.scr ds,h=>by unfold pd at h;cases h
 |.loc l,h=>by unfold pd at h;cases h
 |.typ t,h=>by unfold pd at h;cases h
theorem Qa{n:Nat}: ∀{ds:R0},UX ds=true->DI n ds
 |[],_=>kT λd hd=>by simp at hd
 |d::ds,h=>by rw[yS,aE]at h;unfold DI;exact⟨AG h.1,Qa h.2⟩
end
def NB(h:wY d):pd d=true/\KH d<=1:=by
 rcases h with⟨x,rfl⟩|⟨v,⟨i,rfl⟩|⟨x,rfl⟩,rfl⟩
 .exact⟨by rw[gT,yS,yS];rfl,by rw[sH,aU,aU,dI,dI];decide⟩
 .exact⟨by rw[gT,yS,yS];rfl,by rw[sH,aU,aU,sI];decide⟩
 .exact⟨by rw[gT,yS,yS];rfl,by rw[sH,aU,aU,dI,dI];decide⟩
def vn:MV->Option (List Nat)
 |.tup [.str w,.str x]=>if w=JQ then some x else none
 |_=>none
def CC(x):vn (.tup [.str JQ,.str x])=some x:=by simp[vn]
def Qb(S):AS (.val (.str JQ)) (.val (.str JQ)) S=#[.bl true,S,1]:=by rw[eq_str,dT0 rfl]
def A7(S):AS (.val (.str IS)) (.val (.str JQ)) S=#[.bl false,S,1]:=by rw[eq_str,dF0 ↑4]
def zM(S)(o:MO):(S++[o])[↑0]? =some o:=by simp
def kQ(S)(o a:MO):(S++[o]).set ↑0 a=S++[a]:=by simp
def DF{fs:Ch}: ∀y∈fs.map MV.str,pd y=true/\KH y<40:=λd a=>by refine(mM0.mp a).a λu _ b=>?_;subst b;exact⟨tL u,by rw[dI];decide⟩
def KI{fs:Ch}:MV.str x∈fs.map MV.str↔x∈fs:=⟨λh=>by refine(mM0.mp h).a λu a e=>?_;cases e;exact a,λh=>mM0.mpr (Z8 x h rfl)⟩
theorem HR(a b)(S):yC #[[a,b],6] #[0,5] S=#[a,S,1]:=rfl
theorem AN(a b)(S):yC #[[a,b],6] #[1,5] S=#[b,S,1]:=rfl
def SqM.itQ(h:SqM S m ds): ∃gs,(∀T,stay gs (S++T))/\ ∀T,itQ (.val m) (S++T)=.ok ⟨ds,gs⟩ (S++T):=by
 rcases h with rfl|⟨l,rfl,hS⟩
 .exact(Z8 ([]) (λT=>yX _) (λT=>rfl))
 .have a: ∀T,(S++T)[l]? =some _:=λT=>by rw[â (gS.mp hS).1];exact hS
  refine Z8 ([_]) (λT=>nE (a T)) (λT=>?_);have e:srcOf (S++T) #[l,1]=some ⟨true,ds,[(l,ds)]⟩:=by unfold srcOf;dsimp only;rw[a T]
  unfold L2.M.itQ;rw[e]
def YY(h:(look kvs k).isSome=true):k∈kvs.map (·.1):=by unfold look at h;rw[Option.isSome_map]at h;obtain⟨p,a⟩:=ā.mp h;have b:=List.find?_some a;exact mM0.mpr ⟨p,List.mem_of_find?_eq_some a,Ą b⟩
def tup2(a b)(S):xY [.val a,.val b] S=.ok #[[a,b],6] S:=mZ (by simp)
theorem HS(ds)(S):Iq #[ds,6] S=.ok ⟨ds,[]⟩ S:=rfl
def lst1(a)(S):jX [.val a] S=#[[a],S,2]:=uX (by simp)
def GA(a:Ch)(x:Db):List (List Nat):=if x∈a then a else a++[x]
def YZ(ks)(x y):y∈GA ks x↔y∈ks\/y=x:=by
 unfold GA;split
 .rename_i h;exact⟨.inl,λz=>z.elim id λe=>e▸h⟩
 .rw[á,mS]
def Fk(h:ks.Nodup)(x):(GA ks x).Nodup:=by
 unfold GA;split
 .exact h
 .rename_i c;exact į.mpr ⟨h,by simp,λa e b d=>by rw[mS.mp d];rintro rfl;exact c e⟩
theorem ZA(ks)(x):(GA ks x).length<=ks.length+1:=by
 unfold GA;split
 .lia
 .rw[lA,lS];lia
def oR(a xs:Ch):List (List Nat):=xs.foldl GA a
theorem iB: ∀ xs d  y ,y∈oR d xs↔y∈d\/y∈xs
 |[],d,y=>by simp[oR]
 |x::xs,d,y=>by show y∈oR _ xs↔_;rw[iB xs,YZ,mC,or_assoc]
theorem UZ: ∀ xs {d},d.Nodup->(oR d xs).Nodup
 |[],_,h=>h
 |x::xs,_,h=>UZ xs (Fk h x)
theorem rA: ∀ xs d ,(oR d xs).length<=d.length+↑8
 |[],d=>à _
 |x::xs,d=>by
  have m:=rA xs (GA d x);have a:=ZA d x;show(oR _ xs).length<=_;rw[lC0]
  lia
noncomputable def dT(a:Ch):List (MV×MV):=a.map λx=>(.str x,.bl true)
theorem VA(ks):(dT ks).map (·.1)=ks.map MV.str:=by unfold dT;rw[ď];rfl
def Fm(ks)(x):(look (dT ks) (.str x)).isSome=decide (x∈ks):=by
 by_cases h:x∈ks
 .rw[dT0 h];unfold look;rw[Option.isSome_map,List.find?_isSome];exact⟨_,mM0.mpr ⟨x,h,rfl⟩,by simp⟩
 .rw[dF0 h]
  cases z:(look _ _).isSome with
  |false=>rfl
  |true=>
   have:=YY z;rw[VA]at this;exact absurd (KI.mp this) h
theorem Qc(ks)(x):putK (dT ks) (.str x) (.bl true)=dT (GA ks x):=by
 unfold putK GA;rw[Fm];by_cases h:x∈ks
 .rw[iP h,iP (dT0 h)];unfold dT;rw[ď];refine List.map_congr_left λy _=>?_;show(if MV.str y=MV.str x then _ else _)=_;split<;>rfl
 .rw[iN0 h,iN0 (by rw[dF0 h];exact xF0)];unfold dT;rw[ï];rfl
theorem IZ(ks):(dT ks).all (λp=>HE p.1)=true:=by unfold dT;rw[all_map,ă];intro x _;rfl
def CD(h:S[l]? =#[kvs,7])(a:kvs.all (λp=>HE p.1)=true):JO S #[l,1]=some (l,kvs):=by unfold JO;dsimp only;rw[h];dsimp only;rw[iP a]
def Fn(h:S[l]? =#[dT ks,7])(a:ks.length<1000000)(x)(ρ):vZ #[l,1] (.val (.str x)) (.bl true) ρ S=.ok ρ (S.set l (.dic (dT (GA ks x)))):=by unfold vZ;rw[CD h (IZ ks)];dsimp only;rw[iP ⟨rfl,by unfold dT;rw[lM0];exact a⟩,Qc]
def Qd(h:S[l]? =#[dT ks,7]):uZ [#[l,1]] S=#[ks.map MV.str,S,2]:=by unfold uZ;dsimp only;rw[CD h (IZ ks)];dsimp only;rw[VA]
noncomputable abbrev D4(m:MV)(n:Nat)(a t:T0):Rho:=[some m,#[n],a,t]
theorem HU: ∀ tms ,(∀d∈tms,wY d)-> ∀ q  t ,q.length+tms.length<1000->
  ∃t',jK (xF 3) eM [] tms (D4 m ↑0 a t) (S++[.dic (dT q)])=#[D4 m ↑0 a t',S++[.dic (dT (oR q (tms.filterMap vn)))],0]
 |[],_,q,t,_=>⟨t,rfl⟩
 |d::tms,hT,q,t,hl=>by
  rw[lC0]at hl;rcases hT d mF0 with⟨x,rfl⟩|⟨v,hv,rfl⟩
  .have u:=ZA q x;obtain⟨t',c⟩:=HU (S:=S) (a:=a) tms (λe b=>hT e (mO _ b)) (GA q x) #[[.str JQ,.str x],3] #[];refine⟨t',?_⟩;rw[zW rfl ?_ (yX _)]
   .rw[ĝ,CC];exact c
   .unfold eM eK;simp? [HR,AN,Qb,vK,Fn (zM S (.dic (dT q))) #[],kQ]
  .obtain⟨t',c⟩:=HU tms (λe b=>hT e (mO _ b)) q #[[.str IS,v],3] #[]
   have h:vn (.tup [.str IS,v])=none:=by
    cases v with
    |str y=>simp[vn]
    |_=>rfl
   refine⟨t',?_⟩;rw[zW rfl ?_ (yX _)]
   .rw[ĝ,h];exact c
   .unfold eM eK;exists 7,HR,AN,A7,fT,iF
def AO(tms:R0):List (List Nat):=oR [] (tms.filterMap vn)
theorem VB(j: ∀d∈tms,wY d)(u:tms.length<=100)(S):zQ 1 kU [.new [.tup [tm0,.tup tms]]] S=#[(AO tms).map MV.str,S,2]:=by
 obtain⟨a,b⟩: ∃a:Sto,a=S++[.lst [.tup [tm0,.tup tms]]]:=⟨_,rfl⟩
 have h:a[↑0]? =#[[.tup [tm0,.tup tms]],2]:=by rw[b];exact zM _ _
 refine((show SqM a (.loc ↑0) [.tup [tm0,.tup tms]]from .inr ⟨_,rfl,h⟩).itQ).a λs k c=>?_;obtain⟨e,r⟩:=HU (S:=a) (m:=.loc ↑0) tms j [] none (by simp only[ç];lia);have hs:yA MU [.loc ↑0]=[#[↑0],none,none,none]:=rfl;have p:pO [#[↑0],none,none,none] a=#[D4 (.loc ↑0) a.length none none,a++[.dic (dT [])],0]:=by unfold pO;exists 7,Ei
 have i:pN (D4 (.loc ↑0) a.length #[[tm0,.tup tms],3] none) (a++[.dic (dT [])])=#[D4 (.loc ↑0) a.length #[[tm0,.tup tms],3] e,a++[.dic (dT (AO tms))],0]:=by unfold pN qI;exists 7,AN,HS,r
 have q:pP (D4 (.loc ↑0) a.length none none) (a++[.dic (dT [])])=#[D4 (.loc ↑0) a.length #[[tm0,.tup tms],3] e,a++[.dic (dT (AO tms))],0]:=by unfold pP;simp? [c];rw[zW rfl i (k _)];rfl
 have n:pQ (D4 (.loc ↑0) a.length #[[tm0,.tup tms],3] e) (a++[.dic (dT (AO tms))])=.ok (.ret (.new ((AO tms).map MV.str))) (a++[.dic (dT (AO tms))]):=by unfold pQ;exists 7,Qd (zM a (.dic (dT (AO tms))))
 refine gF (T:=[.lst [.tup [tm0,.tup tms]],.dic (dT (AO tms))]) rfl ?_ (kT λd o=>by refine(mM0.mp o).a λy _ g=>?_;subst g;exact GZ _ _);show kU [.loc ↑0] (S++[.lst [.tup [tm0,.tup tms]]])=_;rw[<-b];unfold kU ES;rw[hs,zD p,zD q,n,b,aA];rfl
theorem JA(hs:stay gs S):
  ∀{ds},(∀d∈ds, ∃m,gf d ρb S=.ok m S/\cf m S=.ok (p d) S/\ef m S=#[d,S,1])->yG gf cf ef ρb gs ds S=.ok (ds.filter p) S
 |[],_=>rfl
 |d::ds,st=>by
  refine(st d mF0).c λm q u v=>?_;have e:=JA hs λd b=>st d (mO _ b);unfold yG
  cases a:p d with
  |true=>
   rw[q,yO,aX,u,yO,aX,a,v,yO,aX];unfold iO;rw[aX,iP hs,e,List.filter_cons_of_pos a];rfl
  |false=>
   rw[q,yO,aX,u,yO,aX,a,iN0 xF0,iP hs,e,List.filter_cons_of_neg (by rw[a];exact xF0)]
def Xs(neg)(p)(ds)(S):BC neg p #[ds,6] S=BB neg p #[ds,6] S:=by unfold BC;split<;>first |rfl|(rename_i h;cases h)
def Qe{fs:Ch}(neg):BC neg (.val (.str x)) #[fs.map MV.str,6] S=#[.bl (if neg=true then !decide (x∈fs)else decide (x∈fs)),S,1]:=by
 have b:itemsOf S #[fs.map MV.str,6]=some _:=rfl;rw[Xs];unfold BB;rw[b];dsimp only;rw[FY (tL x) DF];dsimp only
 have h:((fs.map MV.str).map λy=>decide (y=MV.str x)).any id=decide (x∈fs):=by
  rw[List.any_map];by_cases a:x∈fs
  .rw[dT0 a,ı];exact⟨.str x,mM0.mpr ⟨x,a,rfl⟩,by simp⟩
  .rw[dF0 a,List.any_eq_false];intro y c;refine(mM0.mp c).a λz d g=>?_;subst g;simp only[Function.comp,id,decide_eq_true_eq];intro e;cases e;exact a d
 rw[h]
def Fo(hs:Ch)(tms:R0):List (List Nat):=(AO tms).filter λx=>!decide (x∈hs)
theorem Fp(k: ∀d∈tms,wY d)(h:tms.length<=100)(S):zQ 2 xZ [#[[.tup #[hs,8],at'],6],#[[tm0,.tup tms],6]] S=#[(Fo hs tms).map MV.str,S,2]:=by
 have m:(AO tms).length<=tms.length:=by
  have i:=rA (tms.filterMap vn) [];have o:=Ĝ vn tms;rw[ç]at i;unfold AO
  lia
 have a:=JA (gf:=xF 0) (cf:=cF) (ef:=iU) (ρb:=[none,some _]) (p:=λd=>match d with |.str x=>!decide (x∈hs)|_=>false) (yX S) (ds:=(AO tms).map MV.str) λd e=>by refine(mM0.mp e).a λy n g=>?_;subst g;refine Z1 ([#[y,4],#[[.tup #[hs,8],at'],3]]) rfl ?_ rfl;unfold cF;exists 7,HR,Qe
 have b:((AO tms).map MV.str).filter (λd=>match d with |.str x=>!decide (x∈hs)|_=>false)=(Fo hs tms).map MV.str:=by unfold Fo;rw[List.filter_map];rfl
 rw[b]at a;have c:((AO tms).map MV.str).length<1000000:=by rw[lM0];omega
 refine gF (T:=[]) rfl ?_ (kT λd e=>by refine(mM0.mp e).a λy _ q=>?_;subst q;exact GZ _ _);rw[aN];show yE (pS [some _,some _] S)=_;have j:eO [#[[.tup #[hs,8],at'],3],#[[tm0,.tup tms],3]] S=.ok (.ret (.new ((Fo hs tms).map MV.str))) S:=by unfold eO;simp? [lst1,VB k h,show∀(ds:R0)(S:Sto),IQ (.new ds) S=.ok ⟨ds,[]⟩ S from λ_ _=>rfl,c,show AM 1 [0] [some _,some _]=[none,some _]from rfl,a]
 unfold pS;rw[j];rfl
def Qf:x∈Fo hs tms↔x∈tms.filterMap vn/\x∉hs:=by unfold Fo AO;rw[Ā,iB];simp
theorem VC(ds)(l h)(S):dN #[ds,6] l h S=.ok #[iE ds l h,6] S:=rfl
theorem X3{ts:Tk}(hd:qF (ts.map tbl) t=some (tbl p))(a:0<=p.2)(h: ∀d∈tms,wY d)(i:tms.length<=100)(S):
  zQ 3 aR [#[ts.map tbl,6],#[[.tup #[hs,8],at'],6],#[[.int t,.tup tms],6]] S=#[(Fo hs (tms.take p.2.toNat)).map MV.str,S,2]:=by
 refine gF (T:=[]) rfl ?_ (kT λd hd=>by refine(mM0.mp hd).a λy _ g=>?_;subst g;exact GZ _ _);rw[aN];show yE (rV [some _,some _,some _,none] S)=_;have b:lX [#[ts.map tbl,3],#[[.tup #[hs,8],at'],3],#[[.int t,.tup tms],3],none] S=#[[#[ts.map tbl,3],#[[.tup #[hs,8],at'],3],#[[.int t,.tup tms],3],#[p.2,0]],S,0]:=by unfold lX;exists 7,HR,ix_tup hd,show∀S:Sto,yC (.val (tbl p)) #[1,5] S=.ok _ S from λ_=>rfl
 have c:=Fp (hs:=hs) (at':=at') (tm0:=.int t) (tms:=tms.take p.2.toNat) (λd hd=>h d (þ hd)) (by rw[lT];omega) S;have e:lY [#[ts.map tbl,3],#[[.tup #[hs,8],at'],3],#[[.int t,.tup tms],3],#[p.2,0]] S=.ok (.ret (.new ((Fo hs (tms.take p.2.toNat)).map MV.str))) S:=by unfold lY;simp? [HR,AN,VC,lU _ _ a,tup2,c]
 unfold rV;rw[zD b,e];rfl
def Xt(h:x∈Fo hs (tms.take k)):x∈Fo hs tms:=by rw[Qf]at h ⊢;refine⟨?_,h.2⟩;refine(mem_filterMap.mp h.1).a λd a e=>?_;exact mem_filterMap.mpr (Z8 d (þ a) e)
theorem gO{α:Type}{f g:α->MV}(hs:stay gs S):
  ∀{ds:List α},(∀d∈ds, ∃m,gf (f d) ρb S=.ok m S/\cf m S=.ok true S/\ef m S=#[g d,S,1])->yG gf cf ef ρb gs (ds.map f) S=.ok (ds.map g) S
 |[],_=>rfl
 |d::ds,st=>by refine(st d mF0).c λm q v u=>?_;have e:=gO hs λd a=>st d (mO _ a);rw[æ];unfold yG;rw[q,yO,aX,v,yO,aX,u,yO,aX];unfold iO;rw[aX,iP hs,e];rfl
theorem Cm{α:Type}(f): ∀xs:List α,vX (xs.map λx=>.bl (f x))=some (xs.map f)
 |[]=>rfl
 |x::xs=>by rw[æ];unfold vX;rw[Cm f xs];rfl
theorem Fs{α:Type}(f)(xs:List α)(S):Vn [.new (xs.map λx=>.bl (f x))] S=#[.bl (xs.all f),S,1]:=by show(match (some _).bind vX with |some bs=>R.ok _ S|none=>.no)=_;rw[show(some _).bind vX=some _ from Cm f xs];show R.ok _ S=_;rw[all_map];rfl
theorem Ft{α:Type}(f)(xs:List α)(S):Nn [.new (xs.map λx=>.bl (f x))] S=#[.bl (xs.any f),S,1]:=by show(match (some _).bind vX with |some bs=>R.ok _ S|none=>.no)=_;rw[show(some _).bind vX=some _ from Cm f xs];show R.ok _ S=_;rw[List.any_map];rfl
theorem DG(ds:List α)(j:Nat):iE ds none (some  j )=ds.take j:=by
 unfold iE;rw[HT.sIx_nat,show HT.sIx ↑12 0 none=0 from rfl,drop_zero,Nat.sub_zero];by_cases h:j<=↑12
 .rw[min_eq_left h]
 .rw[Nat.min_eq_right #[],ľ (à _),ľ #[]]
theorem aV(ds:List α)(j:Nat):iE ds (some  j ) none=ds.drop j:=by
 unfold iE;rw[HT.sIx_nat];by_cases h:j<=↑12
 .rw[min_eq_left h,ľ (by rw[ÿ];exact à _)]
 .rw[Nat.min_eq_right #[],List.drop_of_length_le (à _),List.drop_of_length_le #[],List.take_nil]
def vL(f:α->β)(xs)(i):qF (xs.map f) i=(qF xs i).map f:=by
 unfold qF;rw[lM0]
 cases Af ↑8 i with
 |none=>rfl
 |some j=>exact ë
def iC{k:Nat}(h:xs[k]? =some x):qF xs  k =some x:=L2.atI_nat h
noncomputable abbrev zEO(x:Db):MV:=.tup [.str x,.bl true]
theorem ZC: ∀xs:List (List Nat),BK (xs.map zEO)=some (dT xs)
 |[]=>rfl
 |x::xs=>by rw[æ];unfold BK;rw[iP (show HE _=true from rfl),ZC xs];rfl
theorem VD: ∀ xs d ,Fe (dT d) (dT xs)=dT (oR d xs)
 |[],d=>rfl
 |x::xs,d=>by show Fe (putK _ _ _) (dT xs)=dT (oR _ xs);rw[Qc,VD xs]
def Fv(xs)(S):YI [.new (xs.map zEO)] S=.ok #[S.length,1] (S++[.dic (dT (oR [] xs))]):=by show(match BK _ with |some kvs=>R.ok _ _|none=>.no)=_;rw[ZC];show R.ok _ (S++[MO.dic (Fe (dT []) _)])=_;rw[VD]
def Qg(neg)(h:S[l]? =#[dT ks,7])(x):HF neg (.val (.str x)) #[l,1] S=#[.bl (if neg=true then !decide (x∈ks)else decide (x∈ks)),S,1]:=by unfold HF;rw[CD h (IZ ks)];dsimp only;rw[iP (show HE _=true from rfl),Fm]
def Fw(h:S[l]? =#[dT ks,7]):RP [#[l,1]] S=.ok #[ks.length,5] S:=by unfold RP;dsimp only;rw[CD h (IZ ks)];dsimp only;rw[show(dT ks).length=ks.length by unfold dT;rw[lM0]]
theorem Xu(h:S[l]? =#[dT ks,7]):Xa #[l,1] S=true:=by unfold Xa;rw[CD h (IZ ks)];rfl
def Xv(h:S[l]? =#[dT ks,7])(b:S[m]? =#[dT xs,7])(a:l≠m)(c:ks.length+↑8<1000000):RO #[l,1] [#[m,1]] S=#[.non,S.set l (.dic (dT (oR ks xs))),1]:=by unfold RO;rw[CD h (IZ ks)];dsimp only;rw[CD b (IZ xs)];dsimp only;rw[iP ⟨a,by rw[show(dT ks).length=ks.length by unfold dT;rw[lM0],show(dT xs).length=↑8 by unfold dT;rw[lM0]];exact c⟩,VD]
noncomputable def aM(a:Int×List MV):MV:=.tup [.int a.1,.tup a.2]
set_option bootstrap.genMatcherCode true in
local macro_rules
 |`(#[$x,9])=>`(($x).map aM)
noncomputable abbrev qM(hs:Ch)(as:U0):MV:=.tup [.tup #[hs,8],.tup #[as,9]]
structure AOk(ts:Tk)(a:Int×List MV):Prop where
 tb: ∃p,qF ts a.1=some p/\0<=p.2
 tm: ∀d∈a.2,wY d
 len:a.2.length<=4
 wd: ∃p,qF ts a.1=some p/\(a.2.length:Int)=p.1
def ZD(ts:Tk)(hs:Ch)(a:Int×List MV):List (List Nat):=Fo hs (a.2.take ((qF ts a.1).getD (0,0)).2.toNat)
abbrev RW(hs:Ch)(a:Int×List MV):List (List Nat):=Fo hs a.2
theorem Qh(h:AOk ts a)(S):zQ 3 aR [#[ts.map tbl,6],#[[.tup #[hs,8],d],6],.val (aM a)] S=#[(ZD ts hs a).map MV.str,S,2]:=by refine h.tb.a λp b c=>?_;have e:=X3 (hs:=hs) (at':=d) (by rw[vL,b];rfl) c h.tm (by have:=h.len;lia) S;unfold ZD;rw[b];exact e
theorem A8(h:AOk ts a)(S):zQ 2 xZ [#[[.tup #[hs,8],d],6],.val (aM a)] S=#[(RW hs a).map MV.str,S,2]:=Fp h.tm (by have:=h.len;lia) S
theorem Qi(hs)(tms):(Fo hs tms).length<=tms.length:=by
 have b:=rA (tms.filterMap vn) [];have c:=Ĝ vn tms;have a:=ĥ (λx=>!decide (x∈hs)) (AO tms);rw[ç]at b;unfold Fo;unfold AO at a ⊢
 lia
def HV(h:AOk ts a):(RW hs a).length<=4:=í (Qi hs a.2) h.len
theorem Qj(h:AOk ts a):(ZD ts hs a).length<=4:=í (Qi hs _) (by rw[lT];have:=h.len;lia)
theorem EU{α:Type}[DecidableEq α]: ∀{d U:List α},d.Nodup->(∀x∈d,x∈U)->d.length<=U.length
 |[],_,_,_=>zero_le _
 |x::d,U,hn,h=>by
  rw[Ľ]at hn;have m:=h x mF0;have b:=EU hn.2 λy a=>(List.mem_erase_of_ne (show y≠x from λe=>hn.1 (e▸a))).mpr (h y (mO _ a));rw[List.length_erase_of_mem m]at b;have:=List.length_pos_of_mem m;rw[lC0]
  lia
def NC(S T)(o:MO):(S++o::T)[↑0]? =some o:=by simp
def Xw(S T)(o a:MO):(S++o::T).set ↑0 a=S++a::T:=by simp
theorem vM(ds)(S):IQ (.new ds) S=.ok ⟨ds,[]⟩ S:=rfl
def stK(ts:Tk)(hs b:Ch)(a:Int×List MV):List (List Nat):=if(ZD ts hs a).all (λx=>decide (x∈b))=true then oR b (oR [] (RW hs a))else b
abbrev KA(ts:Tk)(q:MV)(i:Nat)(as oth:R0)(l:Nat)(b:Int)(o:T0):Rho:=[#[ts.map tbl,3],some q,#[i,0],#[as,3],#[oth,3],#[l],#[b,0],o]
def Fx(ts)(hs d)(a): ∃t,stK ts hs d a=d++t:=by
 have b: ∀(xs d:List _), ∃t,oR d xs=d++t:=by
  intro xs
  induction xs with
  |nil=>exact λd=>⟨[],(aN _).symm⟩
  |cons x xs ih=>
   intro d;obtain⟨t,e⟩:=ih _;show∃t,oR _ xs=d++t;rw[e];unfold GA;split
   .exact⟨t,rfl⟩
   .exact⟨x::t,by rw[aA];rfl⟩
 unfold stK;split
 .exact b _ _
 .exact⟨[],(aN _).symm⟩
theorem VE(ts)(hs): ∀(oth:U0) ks , ∃t,oth.foldl (stK ts hs) ks=ks++t
 |[],ks=>⟨[],(aN _).symm⟩
 |a::oth,ks=>by obtain⟨t,e⟩:=Fx ts hs ks a;obtain⟨u,b⟩:=VE ts hs oth _;exact⟨t++u,by rw[List.foldl_cons,b,e,aA]⟩
theorem ZE(ts)(hs): ∀(oth:U0) ks ,oth.foldl (stK ts hs) ks=ks-> ∀a∈oth,stK ts hs ks a=ks
 |[],_,_,a,ha=>by simp at ha
 |c::oth,ks,h,a,ha=>by
  rw[List.foldl_cons]at h;obtain⟨t,e⟩:=Fx ts hs ks c;obtain⟨u,i⟩:=VE ts hs oth _;have j:ks++(t++u)=ks++[]:=by rw[aN, <-aA, <-e, <-i,h]
  have d:=(List.append_eq_nil_iff.mp (List.append_cancel_left j)).1;have b:stK ts hs ks c=ks:=by rw[e,d,aN]
  rcases mC.mp ha with rfl|ha
  .exact b
  .rw[b]at h;exact ZE ts hs oth ks h a ha
def X4(h:ks.Nodup)(a):(stK ts hs ks a).Nodup:=by
 unfold stK;split
 .exact UZ _ h
 .exact h
def Fq(hs:Ch)(as:U0)(j:Nat):List (List Nat):=(as[j]?).elim [] (RW hs)
def Kq(ts:Tk)(hs:Ch)(as:U0)(j:Nat):List (List Nat):=(as[j]?).elim [] (ZD ts hs)
theorem ZF(h:as[j]? =some a):Fq hs as j=RW hs a:=by unfold Fq;rw[h];rfl
theorem Fy(h:as[j]? =some a):Kq ts hs as j=ZD ts hs a:=by unfold Kq;rw[h];rfl
def KqF(ts)(hs)(as)(j)(_:j<↑10)(y)(h:y∈Kq ts hs as j):y∈Fq hs as j:=by
 unfold Kq at h;unfold Fq
 cases e:as[j]? with
 |none=>rw[e]at h;simp at h
 |some a=>
  rw[e]at h;exact Xt h
abbrev Lg(ts:Tk)(hs:Ch)(as:U0):Nat->List Nat->Prop:=Kn (Kq ts hs as) (Fq hs as) as.length
theorem Qk: ∀(oth:U0),(∀a∈oth, ∃j,as[j]? =some a/\j≠i)-> ∀ d ,d.Nodup->(∀x∈d,Lg ts hs as i x)->(oth.foldl (stK ts hs) d).Nodup/\ ∀x∈oth.foldl (stK ts hs) d,Lg ts hs as i x
 |[],_,d,hn,h=>⟨hn,h⟩
 |a::oth,ho,d,hn,h=>by refine(ho a mF0).a λj m q=>?_;exact Qk oth (λb n=>ho b (mO _ n)) _ (X4 hn a) ((by
   intro x c;unfold stK at c;split at c
   .rename_i k;rw[iB,iB]at c;rcases c with c|c|c
    .exact h x c
    .simp at c
    .refine .step j (gS.mp m).1 q (λy e=>?_) (by rw[ZF m];exact c);rw[Fy m]at e;exact h y (Ą (ă.mp k y e))
   .exact h x c))
def X6{oth:U0}(hi:as[i]? =some a0)(k: ∀x∈ZD ts hs a0,x∈ks)(ho: ∀j a,as[j]? =some a->j≠i->a∈oth)(b: ∀a∈oth,stK ts hs ks a=ks)(h:Lg ts hs as i x):x∈ks:=by
 induction h with
 |key h=>rw[Fy hi]at h;exact k _ h
 |@step x j hj hne hall hx ih=>
  have c:=gE hj;have e:=b _ (ho j _ c hne);rw[ZF c]at hx;rw[Fy c]at ih;unfold stK at e;rw[iP (ă.mpr λy d=>dT0 (ih y d))]at e;rw[<-e,iB,iB];exact .inr (.inr hx)
def ZG(hs:Ch)(as:U0):List (List Nat):=as.flatMap (RW hs)
theorem VF: ∀{as},(∀a∈as,AOk ts a)->(ZG hs as).length<=4 * ↑10
 |[],_=>à _
 |a::as,h=>by
  have d:=VF (hs:=hs) λb c=>h b (mO _ c);have e:=HV (hs:=hs) (h a mF0);unfold ZG at d ⊢;rw[List.flatMap_cons,lA,lC0]
  lia
def A9(hi:i<↑10)(h:Lg ts hs as i x):x∈ZG hs as:=by
 have e: ∀j,j<↑10->x∈Fq hs as j->x∈ZG hs as:=λj a h=>by rw[ZF (gE a)]at h;exact List.mem_flatMap.mpr ⟨_,Ĭ a,h⟩
 cases h with
 |key h=>exact e i hi (KqF ts hs as i hi _ h)
 |step j a _ _ hx=>exact e j a hx
theorem Ql(S): ∀(os:U0),(∀a∈os,AOk ts a)-> ∀ T  m  o ,m.length+4 * os.length<=1000->
  ∃u z,jK (xF 7) eS [] #[os,9] (KA ts (.tup [.tup #[hs,8],qd]) i as oth ↑0 b o) (S++.dic (dT m)::T)=#[KA ts (.tup [.tup #[hs,8],qd]) i as oth ↑0 b z,(S++.dic (dT (os.foldl (stK ts hs) m))::u),0]
 |[],_,T,m,o,_=>(Y9 T o rfl)
 |a::os,h,T,m,o,hl=>by
  rw[lC0]at hl;have q:=h a mF0;obtain⟨G,E⟩:=(show ∃u,eS (KA ts (.tup [.tup #[hs,8],qd]) i as oth ↑0 b (some (aM a))) (S++.dic (dT m)::T)=#[KA ts (.tup [.tup #[hs,8],qd]) i as oth ↑0 b (some (aM a)),(S++.dic (dT (stK ts hs m a))::u),0] by
    obtain⟨k,j⟩: ∃k:Sto,k=S++.dic (dT m)::T:=⟨_,rfl⟩
    have n:k[↑0]? =#[dT m,7]:=by rw[j];exact NC _ _ _
    have p:yG (xF 0) qL eQ [none,some _] [] _ k=.ok ((ZD ts hs a).map λx=>.bl (decide (x∈m))) k:=
     gO (yX _) λx _=>(Z1 ([#[x,4],#[↑0]]) rfl rfl (by unfold eQ;simp? [Qg false n x,fT,iF]))
    have A:((ZD ts hs a).map MV.str).length<1000000:=by rw[lM0];have:=Qj (hs:=hs) q;lia
    have D:((RW hs a).map MV.str).length<1000000:=by rw[lM0];have:=HV (hs:=hs) q;lia
    have y:yG (xF 0) qO eR [none] [] _ k=.ok ((RW hs a).map zEO) k:=
     gO (yX _) λx _=>⟨[#[x,4]],rfl,rfl,by unfold eR;exists 7,rfl⟩
    have r: ∀a b c d e f g q:Option MV,AM 1 [5] [a,b,c,d,e,f,g,q]=[none,f]:=λ_ _ _ _ _ _ _ _=>rfl;have w: ∀a b c d e f g q:Option MV,AM 1 [] [a,b,c,d,e,f,g,q]=[none]:=λ_ _ _ _ _ _ _ _=>rfl;unfold eS qP;rw[<-j];unfold stK;by_cases v:(ZD ts hs a).all (λx=>decide (x∈m))=true
    .have C:(k++[.dic (dT (oR [] (RW hs a)))])[↑0]? =#[dT m,7]:=by rw[â (gS.mp n).1];exact n
     have B:↑0≠k.length:=by rw[j,lA,lC0];lia
     have s:m.length+(oR [] (RW hs a)).length<1000000:=by
      have:=rA (RW hs a) [];have:=HV (hs:=hs) q;rw[ç]at *
      lia
     refine⟨T++[.dic (dT (oR [] (RW hs a)))],?_⟩;rw[iP v];simp? [Qh q,vM,A,r,p,Fs,v,Xu n,A8 q,D,w,y,Fv,Xv C (zM _ _) B s];rw[j,aA,List.cons_append,Xw]
    .refine⟨T,?_⟩;rw[iN0 v, <-j];simp? [Qh q,vM,A,r,p,Fs,v,fT,iF])
  have A:(stK ts hs m a).length<=m.length+4:=by
   unfold stK;split
   .have I:=rA (oR [] (RW hs a)) m;have H:=rA (RW hs a) [];have J:=HV (hs:=hs) q;rw[ç]at H
    lia
   .lia
  obtain⟨u,z,e⟩:=Ql S os (λc F=>h c (mO _ F)) G (stK ts hs m a) _ #[];refine⟨u,z,?_⟩;rw[æ,zW rfl E (yX _)];exact e
def Fz(S T)(ks):mB (KA ts q i as oth ↑0 b o) (S++.dic (dT ks)::T)=.ok (decide (b<ks.length)) (S++.dic (dT ks)::T):=by unfold mB;exists 7,Fw (NC S T _),lt_int
def Xy(S){os:U0}(h: ∀a∈os,AOk ts a)(T)(ks)(o)(c:ks.length+4 * os.length<=1000):
  ∃m d,eU (KA ts (.tup [.tup #[hs,8],qd]) i as #[os,9] ↑0 b o) (S++.dic (dT ks)::T)=#[KA ts (.tup [.tup #[hs,8],qd]) i as #[os,9] ↑0 ks.length d,(S++.dic (dT (os.foldl (stK ts hs) ks))::m),0]:=by
 obtain⟨m,d,e⟩:=Ql S os h T ks o c;refine⟨m,d,?_⟩;have j:eT (KA ts (.tup [.tup #[hs,8],qd]) i as #[os,9] ↑0 b o) (S++.dic (dT ks)::T)=#[KA ts (.tup [.tup #[hs,8],qd]) i as #[os,9] ↑0 ks.length o,(S++.dic (dT ks)::T),0]:=by unfold eT;exists 7,Fw (NC S T _)
 unfold eU;rw[zD j];unfold qQ;exists 7,HS,e
theorem ZH{os:U0}(hi:i<↑10)(v: ∀a∈as,AOk ts a)(p:↑10<=4)(c: ∀a∈os, ∃j,as[j]? =some a/\j≠i)(E:os.length<=4)(S): ∀ m f ,m+2<=f-> ∀ T  d  b  o ,d.Nodup->(∀x∈d,Lg ts hs as i x)->(ZG hs as).length<=d.length+m->b<d.length->
  ∃B u b' z t,jY mB eU f (KA ts (qM hs as) i #[as,9] #[os,9] ↑0 b o) (S++.dic (dT d)::T)=#[KA ts (qM hs as) i #[as,9] #[os,9] ↑0 b' z,(S++.dic (dT u)::B),0]/\u=d++t/\(∀x∈u,Lg ts hs as i x)/\(∀a∈os,stK ts hs u a=u)/\u.Nodup
 |m,f,hf,T,d,b,o,hn,hk,hU,hb=>by
  obtain⟨f,rfl⟩: ∃g,f=g+1:=⟨f - 1,by lia⟩
  have w: ∀a∈os,AOk ts a:=λa O=>by refine(c a O).a λj M _=>?_;exact v a (î M)
  have P:d.length<=16:=by
   have J:=EU hn λx s=>A9 hi (hk x s);have G:=VF (hs:=hs) v
   lia
  obtain⟨C,F,y⟩:=Xy (i:=i) (b:=b) S w T d o #[];have A:=Fz (ts:=ts) (q:=qM hs as) (i:=i) (as:=as.map aM) (oth:=os.map aM) (b:=b) (o:=o) S T d;rw[dT0 hb]at A;obtain⟨t,k⟩:=VE ts hs os d;obtain⟨n,h⟩:=Qk os c d hn hk;have D:=congrArg List.length k;rw[lA]at D;by_cases H:t=[]
  .subst H;rw[aN]at k;obtain⟨f,rfl⟩: ∃g,f=g+1:=⟨f - 1,by lia⟩
   have r:=Fz (ts:=ts) (q:=qM hs as) (i:=i) (as:=as.map aM) (oth:=os.map aM) (b:=d.length) (o:=F) S C d;rw[dF0 #[]]at r;refine Y2 C d d.length F ([]) ⟨?_,(aN _).symm,hk,ZE ts hs os d k,hn⟩;rw[k]at y;rw[iT A y,DA r]
  .have I:0<t.length:=ĳ.mpr H;have J:=EU n λx s=>A9 hi (h x s);have U:m - 1<m:=by lia
   refine(ZH hi v p c E S (m - 1) f #[] C _ d.length F n h #[] #[]).q λB u b' z Q R=>R.h λe G L N K=>?_;refine Y2 B u b' z (t++Q) ⟨?_,(by rw[G,k,aA]),L,N,K⟩;rw[iT A y];exact e
 termination_by m=>m
theorem Qm(a:rs.length=n)(b:F (zP rs S).1 (zP rs S).2=.ok #[↑0,1] (S++.dic kvs::T)):zQ n F rs S=.ok #[↑0,1] (S++.dic kvs::T):=by
 unfold zQ;rw[iP a,b];show dY S _ _=_;unfold dY;dsimp only;split
 .rw[iN0 (ī _),NC]
 .rfl
theorem Ga{as:U0}:a∈as.take i++as.drop (i+1)↔ ∃j,as[j]? =some a/\j≠i:=by
 rw[á];constructor
 .rintro(h|h)
  .obtain⟨j,b,e⟩:=List.mem_take_iff_getElem.mp h;exact⟨j,by rw[<-e];exact gE _,by lia⟩
  .obtain⟨j,e⟩:=List.mem_iff_getElem?.mp h;rw[getElem?_drop]at e;exact⟨i+1+j,e,by lia⟩
 .rintro⟨j,b,c⟩;by_cases h:j<i
  .exact .inl (î (by rw[ĭ h];exact b))
  .exact .inr (î (by rw[getElem?_drop,show i+1+(j - (i+1))=j by lia];exact b))
theorem Qo(r: ∀a∈as,AOk ts a)(n:↑10<=4){i:Nat}(hi:i<↑10)(S):
  ∃u T,zQ 3 vE [#[ts.map tbl,6],.val (qM hs as),#[i,5]] S=.ok #[↑0,1] (S++.dic (dT u)::T)/\(∀x,x∈u↔Lg ts hs as i x)/\u.Nodup:=by
 have q:=gE hi;have k:=r _ (Ĭ hi);obtain⟨a,P⟩: ∃a,a=as[i]:=⟨_,rfl⟩
 rw[<-P]at q k;obtain⟨os,p⟩: ∃os,os=as.take i++as.drop (i+1):=⟨_,rfl⟩
 have B: ∀c∈os, ∃j,as[j]? =some c/\j≠i:=λc o=>Ga.mp (p▸o)
 have D:os.length<=4:=by
  rw[p,lA,lT,ÿ]
  lia
 have A: ∀x∈oR [] (ZD ts hs a),Lg ts hs as i x:=λx m=>by
  rw[iB]at m;rcases m with m|m
  .simp at m
  .exact .key (by rw[Fy q];exact m)
 refine(ZH (hs:=hs) hi r n B D S 100 10000 #[] [] (oR [] (ZD ts hs a)) (-1) none (UZ _ nodup_nil) A (by have:=VF (hs:=hs) r;lia) #[]).q λJ s X W t R=>R.h λF H M K U=>?_;refine Z3 s J ?_ (λx=>⟨M x,λh=>?_⟩) U
 .refine Qm rfl ?_;show yE (vD [#[ts.map tbl,3],some (qM hs as),#[i,0],none,none,none,none,none] S)=_;have I:pT [#[ts.map tbl,3],some (qM hs as),#[i,0],none,none,none,none,none] S=#[[#[ts.map tbl,3],some (qM hs as),#[i,0],#[as.map aM,3],none,none,none,none],S,0]:=by unfold pT;exists 7,AN
  have O:pU [#[ts.map tbl,3],some (qM hs as),#[i,0],#[as.map aM,3],none,none,none,none] S=#[[#[ts.map tbl,3],some (qM hs as),#[i,0],#[as.map aM,3],#[os.map aM,3],none,none,none],S,0]:=by
   have o:((i:Int)+1)=((i+1:Nat):Int):=by lia
   have Q:((as.map aM).take i).length+((as.map aM).drop (i+1)).length<=sizeLine:=fits (by rw[lT,ÿ,lM0];lia);unfold pU;simp? [VC,DG,o,aV,rP Q];rw[p,ï,map_take,map_drop]
  have E:((ZD ts hs a).map MV.str).length<1000000:=by rw[lM0];have:=Qj (hs:=hs) k;lia
  have z:yG (xF 0) qK eP [none] [] _ S=.ok ((ZD ts hs a).map zEO) S:=
   gO (yX _) λx _=>⟨[#[x,4]],rfl,rfl,by unfold eP;exists 7,rfl⟩
  have v: ∀a b c d e f g h:Option MV,AM 1 [] [a,b,c,d,e,f,g,h]=[none]:=λ_ _ _ _ _ _ _ _=>rfl;have w:yC _ #[i,5] S=#[aM a,S,1]:=ix_tup (iC (by rw[ë,q];rfl));have N:pV [#[ts.map tbl,3],some (qM hs as),#[i,0],#[as.map aM,3],#[os.map aM,3],none,none,none] S=#[[#[ts.map tbl,3],some (qM hs as),#[i,0],#[as.map aM,3],#[os.map aM,3],#[↑0],none,none],S++[.dic (dT (oR [] (ZD ts hs a)))],0]:=by unfold pV;simp? [w,Qh k,vM,E,v,z,Fv]
  have L:pW [#[ts.map tbl,3],some (qM hs as),#[i,0],#[as.map aM,3],#[os.map aM,3],#[↑0],none,none] (S++[.dic (dT (oR [] (ZD ts hs a)))])=#[KA ts (qM hs as) i #[as,9] #[os,9] ↑0 (-1) none,S++[.dic (dT (oR [] (ZD ts hs a)))],0]:=by unfold pW;exists 7,rfl
  unfold vD;rw[zD I,zD O,zD N,zD L,zD (show vB _ _=_ from F)];unfold vC;exists 7,rfl
 .refine X6 q (λy G=>?_) (λj c o C=>by rw[p];exact Ga.mpr ⟨j,o,C⟩) K h;rw[H,á,iB];exact .inl (.inr G)
noncomputable abbrev zC(k:Nat):MV:=.int (k:Int)
def VG(h:zC j=zC k):j=k:=by
 injection h with h
 exact Int.ofNat.inj h
def Gb{rs:Db}:zC j∈rs.map zC↔j∈rs:=⟨λh=>by refine(mM0.mp h).a λk a e=>?_;rw[<-VG e];exact a,λh=>mM0.mpr (Z8 j h rfl)⟩
theorem ND{n:Nat}(h:n<=1000)(S):kG [.val (.int  n )] S=.ok ⟨(List.range n).map zC,[]⟩ S:=by rw[LY #[],Ĩ]
def X7(S):kG [#[6,5]] S=.ok ⟨(List.range 6).map zC,[]⟩ S:=ND (n:=6) ↑4 S
def rD(rs:Db):List (MV×MV):=rs.map λj=>(zC j,.bl true)
theorem Gc(rs):(rD rs).map (·.1)=rs.map zC:=by unfold rD;rw[ď];rfl
def Gd(rs)(j):(look (rD rs) (zC j)).isSome=decide (j∈rs):=by
 by_cases h:j∈rs
 .rw[dT0 h];unfold look;rw[Option.isSome_map,List.find?_isSome];exact⟨_,mM0.mpr ⟨j,h,rfl⟩,by simp⟩
 .rw[dF0 h]
  cases z:(look _ _).isSome with
  |false=>rfl
  |true=>
   have:=YY z;rw[Gc]at this;exact absurd (Gb.mp this) h
theorem Qp(rs):(rD rs).all (λp=>HE p.1)=true:=by unfold rD;rw[all_map,ă];intro x _;rfl
def Qq(neg)(h:S[l]? =#[rD rs,7])(j):HF neg (.val (zC j)) #[l,1] S=#[.bl (if neg=true then !decide (j∈rs)else decide (j∈rs)),S,1]:=by unfold HF;rw[CD h (Qp rs)];dsimp only;rw[iP (show HE _=true from rfl),Gd]
def Ge(h:S[l]? =#[rD rs,7])(b:rs.length<1000000)(a:j∉rs)(ρ):vZ #[l,1] (.val (zC j)) (.bl true) ρ S=.ok ρ (S.set l (.dic (rD (rs++[j])))):=by unfold vZ;rw[CD h (Qp rs)];dsimp only;rw[iP ⟨rfl,by unfold rD;rw[lM0];exact b⟩,(show putK (rD rs) (zC j) (.bl true)=rD (rs++[j]) by unfold putK;rw[Gd,iN0 (by rw[dF0 a];exact xF0)];unfold rD;rw[ï];rfl)]
def Qr(h:S[l]? =#[rD rs,7]):uZ [#[l,1]] S=#[rs.map zC,S,2]:=by unfold uZ;dsimp only;rw[CD h (Qp rs)];dsimp only;rw[Gc]
theorem NF{α:Type}{f:α->MV}{g:α->List MV}: ∀(xs:List α),(∀x∈xs, ∀T, ∃d,gf (f x) ρb (S++T)=.ok d (S++T)/\cf d (S++T)=.ok true (S++T)/\ef d (S++T)=#[g x,S++T,2])->
  ∀T,yG gf cf ef ρb [] (xs.map f) (S++T)=.ok ((List.range' (↑0+T.length) ↑8).map MV.loc) (S++T++xs.map λx=>MO.lst (g x))
 |[],_,T=>by rw[List.map_nil,List.map_nil,aN];rfl
 |x::xs,h,T=>by refine(h x mF0 T).c λd m u q=>?_;have a:=NF xs (λy b=>h y (mO _ b)) (T++[.lst (g x)]);rw[æ];unfold yG;rw[m,yO,aX,u,yO,aX,iP rfl,q,yO,aX];unfold iO;rw[aX,iP (yX _),aA,a,aX,lA,lA,lS,lC0,range'_succ,æ,æ];simp only[aA,List.singleton_append,add_assoc]
def Kh(xs ys:Ch):Bool:=xs.any λx=>decide (x∈ys)
theorem X9(c:S[l]? =#[xs.map MV.str,2])(j:S[m]? =#[ys.map MV.str,2])(d:↑8<1000000):zQ 2 cH [#[l,1],#[m,1]] S=#[.bl (Kh xs ys),S,1]:=by
 refine FZ rfl ?_;show yE (cG [some _,some _] S)=_
 have i:yG (xF 0) bR kI [none,#[m]] [_] #[xs,8] S=.ok _ S:=
  gO (nE c) λx _=>(Z1 ([some _,some _]) rfl rfl (by unfold kI;simp? [mL false j (tL x) DF];rw[dec_is (KI)]))
 have h:(xs.map MV.str).length<1000000:=by rw[lM0];exact d
 have e: ∀a b:Option MV,AM 1 [1] [a,b]=[none,b]:=λ_ _=>rfl;unfold cG aK;simp? [rR c,h,e,i,Ft];rfl
theorem aP{α:Type}{f g:α->MV}{p:α->Bool}(hs:stay gs S):
  ∀{ds:List α},(∀d∈ds, ∃m,gf (f d) ρb S=.ok m S/\cf m S=.ok (p d) S/\ef m S=#[g d,S,1])->yG gf cf ef ρb gs (ds.map f) S=.ok ((ds.filter p).map g) S
 |[],_=>rfl
 |d::ds,st=>by
  refine(st d mF0).c λm q u v=>?_;have e:=aP hs λd b=>st d (mO _ b);rw[æ];unfold yG
  cases a:p d with
  |true=>
   rw[q,yO,aX,u,yO,aX,a,v,yO,aX];unfold iO;rw[aX,iP hs,e,List.filter_cons_of_pos a];rfl
  |false=>
   rw[q,yO,aX,u,yO,aX,a,iN0 xF0,iP hs,e,List.filter_cons_of_neg (by rw[a];exact xF0)]
abbrev SA(ts:Tk)(q:MV)(i l0 b a:Nat)(nm o:T0):Rho:=[#[ts.map tbl,3],some q,some (zC i),#[l0],#[b],#[a],#[a+1],nm,o]
abbrev AQ(B:Sto)(rs ws:Db):Sto:=B++[.dic (rD rs),.lst (ws.map zC)]
structure UN(B:Sto)(l4 u0 n:Nat)(un:Nat->List (List Nat)):Prop where
 tab:B[l4]? =#[(List.range' u0 n).map MV.loc,2]
 row: ∀j,j<n->B[u0+j]? =#[(un j).map MV.str,2]
 len: ∀j,j<n->(un j).length<=4
def Qs(B)(rs ws):(AQ B rs ws)[↑16]? =#[rD rs,7]:=by simp[AQ]
def ZI(B)(rs ws):(AQ B rs ws)[↑16+1]? =#[ws.map zC,2]:=by simp[AQ]
def Y1(B)(rs ws rs'):(AQ B rs ws).set ↑16 (.dic (rD rs'))=AQ B rs' ws:=by simp[AQ]
def Qt(B)(rs ws ws'):(AQ B rs ws).set (↑16+1) (.lst (ws'.map zC))=AQ B rs ws':=by simp[AQ]
def Gf{k:Nat}(h:B[k]? =some o)(rs ws):(AQ B rs ws)[k]? =some o:=by show _[k]? =_;rw[â (gS.mp h).1];exact h
def Qu(U:UN B l4 u0 n un)(a:j<n)(rs ws):yC #[l4,1] (.val (zC j)) (AQ B rs ws)=.ok #[u0+j,1] (AQ B rs ws):=
 aH (Gf U.tab rs ws) (iC (by rw[ë,List.getElem?_range' a,Nat.one_mul];rfl))
theorem Co(U:UN B l4 u0 n un)(hw:w<n): ∀(u:Db),(∀j∈u,j<n)-> ∀ rs ws  o ,rs.length+u.length<1000->ws.length+u.length<1000->
  ∃t v,jK (xF 8) nO [] (u.map zC) (SA ts q i l0 l4 ↑16 #[u0+w] o) (AQ B rs ws)=#[SA ts q i l0 l4 ↑16 #[u0+w] v,AQ B (rs++t) (ws++t),0]/\(rs.Nodup->(rs++t).Nodup)/\(∀k∈t,k<n/\Kh (un w) (un k)=true)/\ ∀k∈u,Kh (un w) (un k)=true->k∈rs++t
 |[],_,rs,ws,o,_,_=>(ZB ([]) o (by rw[aN,aN];rfl) (λh=>by rw[aN];exact h) (λk d=>by simp at d) (λk d=>by simp at d))
 |j::u,hjs,rs,ws,o,h1,h2=>by
  rw[lC0]at h1 h2;have D:=hjs j mF0;have r: ∀k∈u,k<n:=λk d=>hjs k (mO _ d);have e:=(show nO (SA ts q i l0 l4 ↑16 #[u0+w] (some (zC j))) (AQ B rs ws)=#[SA ts q i l0 l4 ↑16 #[u0+w] (some (zC j)),if j∉rs/\Kh (un w) (un j)=true then AQ B (rs++[j]) (ws++[j])else AQ B rs ws,0] by
    have c:=Qq true (Qs B rs ws) j;rw[iP rfl]at c;unfold nO rY;by_cases m:j∈rs
    .rw[dT0 m]at c;rw[iN0 λz=>z.1 m];exists 7,c,Bool.not_true,fT,iF
    .rw[dF0 m]at c;have s:=X9 (Gf (U.row w hw) rs ws) (Gf (U.row j D) rs ws) (by have:=U.len w hw;lia);by_cases p:Kh (un w) (un j)=true
     .rw[iP ⟨m,p⟩];have H:(EJ (kJ (.bl true)) (DJ vZ (vJ 5) (vJ 8))) (SA ts q i l0 l4 ↑16 #[u0+w] (some (zC j))) (AQ B rs ws)=#[SA ts q i l0 l4 ↑16 #[u0+w] (some (zC j)),AQ B (rs++[j]) ws,0]:=by simp? [vK,Ge (Qs B rs ws) #[] m,Y1]
      have I:(BJ (eJ kH BE (vJ 6) (yJ (vJ 8) wJ))) (SA ts q i l0 l4 ↑16 #[u0+w] (some (zC j))) (AQ B (rs++[j]) ws)=#[SA ts q i l0 l4 ↑16 #[u0+w] (some (zC j)),AQ B (rs++[j]) (ws++[j]),0]:=by simp? [xT (ZI B (rs++[j]) ws),dH (ZI B (rs++[j]) ws) (by rw[lM0];lia)];rw[show ws.map zC++[.int (j:Int)]=(ws++[j]).map zC by rw[ï];rfl,Qt]
      simp? [c,Bool.not_false,Qu U D,s,p];rw[zD H,I]
     .rw[iN0 λz=>p z.2];simp? [c,Bool.not_false,Qu U D,s,p,fT,iF]);by_cases m:j∉rs/\Kh (un w) (un j)=true
  .rw[iP m]at e;obtain⟨t,v,y,C,E,A⟩:=Co U hw u r (rs++[j]) (ws++[j]) _ (by rw[lA,lS];lia) (by rw[lA,lS];lia);refine ZB (j::t) v ?_ (λF=>?_) (λk d=>?_) (λk d s=>?_)
   .rw[æ,zW rfl e (yX _),y,aA,aA];rfl
   .have:=C (į.mpr ⟨F,by simp,λa J b G=>by rw[mS.mp G];rintro rfl;exact m.1 J⟩);rw[aA]at this;exact this
   .rcases mC.mp d with rfl|d
    .exact⟨D,m.2⟩
    .exact E k d
   .rcases mC.mp d with rfl|d
    .exact á.mpr (.inr mF0)
    .have:=A k d s;rw[aA]at this;exact this
  .rw[iN0 m]at e;obtain⟨t,v,y,C,E,A⟩:=Co U hw u r rs ws _ #[] #[];refine ZB t v ?_ C E (λk d s=>?_)
   .rw[æ,zW rfl e (yX _),y]
   .rcases mC.mp d with rfl|d
    .exact á.mpr (.inl (Classical.byContradiction λz=>m ⟨z,s⟩))
    .exact A k d s
def Yb(h:S[l]? =#[ds++[d],2]):MS #[l,1] [] S=#[d,S.set l (.lst ds),1]:=by
 unfold MS;dsimp only;rw[h];dsimp only;have b:(ds++[d])[(ds++[d]).length - 1]? =some d:=by simp
 have a:(ds++[d]).eraseIdx ((ds++[d]).length - 1)=ds:=by rw[lA,lS,Nat.add_sub_cancel,List.eraseIdx_append_of_length_le (à _),sub_self];exact aN _
 rw[b,a]
def VH(h:S[l]? =#[ds,2]):aZ #[l,1] S=.ok (!ds.isEmpty) S:=by unfold aZ;dsimp only;rw[h]
theorem ZJ(U:UN B l4 u0 n un)(E:n<=4){P:Nat->Prop}(M: ∀r k,P r->k<n->Kh (un r) (un k)=true->P k): ∀ m f ,m<f-> ∀ rs ws  nm o ,n - rs.length+ws.length<=m->ws.length<=rs.length->rs.Nodup->(∀r∈rs,r<n/\P r)->(∀r∈ws,r∈rs)->(∀r∈rs,r∉ws-> ∀k,k<n->Kh (un r) (un k)=true->k∈rs)->
  ∃d v u,jY jM nP f (SA ts q i l0 l4 ↑16 nm o) (AQ B rs ws)=#[SA ts q i l0 l4 ↑16 v u,AQ B d [],0]/\(∀r∈rs,r∈d)/\d.Nodup/\(∀r∈d,r<n/\P r)/\ ∀r∈d, ∀k,k<n->Kh (un r) (un k)=true->k∈d
 |m,f,hf,rs,ws,nm,o,hm,hwl,hnd,hr,hw,hc=>by
  obtain⟨f,rfl⟩: ∃g,f=g+1:=⟨f - 1,by lia⟩
  have J:jM (SA ts q i l0 l4 ↑16 nm o) (AQ B rs ws)=.ok (!(ws.map zC).isEmpty) (AQ B rs ws):=by unfold jM;exists 7,VH (ZI B rs ws)
  have S:rs.length<=n:=by have:=EU hnd λx C=>ø.mpr (hr x C).1;rw[ñ]at this;exact this
  rcases List.eq_nil_or_concat ws with rfl|⟨ws,w,rfl⟩
  .exact(Y6 rs nm o (DA J) (λr h=>h) hnd hr (λr h=>hc r h (by simp)))
  .rw[List.concat_eq_append]at *;have I:jM (SA ts q i l0 l4 ↑16 nm o) (AQ B rs (ws++[w]))=.ok true (AQ B rs (ws++[w])):=by rw[J];simp
   rw[lA,lS]at hm hwl;have G:w∈rs:=hw w (á.mpr (.inr mF0));have b:=hr w G;refine((show ∃t u,nP (SA ts q i l0 l4 ↑16 nm o) (AQ B rs (ws++[w]))=#[SA ts q i l0 l4 ↑16 #[u0+w] u,AQ B (rs++t) (ws++t),0]/\(rs.Nodup->(rs++t).Nodup)/\(∀k∈t,k<n/\Kh (un w) (un k)=true)/\ ∀k,k<n->Kh (un w) (un k)=true->k∈rs++t by
     obtain⟨t,u,e,H,c,F⟩:=Co U (b.1) _ (λj Q=>ø.mp Q) rs ws o (by rw[ñ];omega) (by rw[ñ];omega);refine⟨t,u,?_,H,c,λk A=>F k (ø.mpr A)⟩;have W:MS #[↑16+1,1] [] (AQ B rs (ws++[w]))=#[zC w,AQ B rs ws,1]:=by rw[Yb (by rw[ZI,ï];rfl),Qt]
     have O:eX (SA ts q i l0 l4 ↑16 nm o) (AQ B rs (ws++[w]))=#[SA ts q i l0 l4 ↑16 #[u0+w] o,AQ B rs ws,0]:=by unfold eX;simp? [xT (ZI B rs _),W,Qu U (b.1)]
     unfold nP;rw[zD O];unfold rZ;have L:=rQ (Gf U.tab rs ws);rw[lM0,List.length_range']at L;exists 7,L,ND (n:=n) (by omega),e)).g λt u e H c F=>?_;have a:=H hnd
   have p: ∀r∈rs++t,r<n/\P r:=λr h=>by
    rcases á.mp h with h|h
    .exact hr r h
    .exact⟨(c r h).1,M w r b.2 (c r h).1 (c r h).2⟩
   have s:(rs++t).length<=n:=by have:=EU a λx C=>ø.mpr (p x C).1;rw[ñ]at this;exact this
   rw[lA]at s;have Y:m - 1<m:=by lia
   obtain⟨d,v,D,Z,N,X,g3,T⟩:=ZJ (q:=q) (i:=i) (l0:=l0) U E M (m - 1) f #[] (rs++t) (ws++t) _ u (by rw[lA,lA];lia) (by rw[lA,lA];lia) a p (λr h=>by
    rcases á.mp h with h|h
    .exact á.mpr (.inl (hw r (á.mpr (.inl h))))
    .exact á.mpr (.inr h)) (λr h K k A y=>by
    rcases á.mp h with h|h
    .by_cases e:r=w
     .subst e;exact F k A y
     .exact á.mpr (.inl (hc r h (λz=>by
       rcases á.mp z with z|z
       .exact K (á.mpr (.inl z))
       .exact e (mS.mp z)) k A y))
    .exact absurd (á.mpr (.inr h)) K)
   refine Y6 d v D ?_ (λr h=>N r (á.mpr (.inl h))) X g3 T;rw[iT I e];exact Z
 termination_by m=>m
abbrev B1(ts:Tk)(hs:Ch)(as:U0):Nat->Nat->Prop:=Rc (Kq ts hs as) (Fq hs as) as.length
def zAM(hs a:Ch)(as:U0)(j:Nat):List (List Nat):=(Fq hs as j).filter λx=>!decide (x∈a)
def Qv(c: ∀x,x∈ks↔Lg ts hs as i x)(r k):Kh (zAM hs ks as r) (zAM hs ks as k)=true↔ ∃x,x∈Fq hs as r/\x∈Fq hs as k/\ ¬Lg ts hs as i x:=by
 unfold Kh;rw[ı];constructor
 .rintro⟨x,b,a⟩;have a:=Ą a;unfold zAM at b a;rw[Ā]at b a;exact Z1 x b.1 a.1 (λz=>by have:=b.2;rw[dT0 ((c x).mpr z)]at this;cases this)
 .rintro⟨x,b,a,d⟩;have e:(!decide (x∈ks))=true:=by rw[dF0 λz=>d ((c x).mp z)];rfl
  exact Z8 x (Ā.mpr ⟨b,e⟩) (dT0 (Ā.mpr ⟨a,e⟩))
def B3(hi:i<↑10)(h:B1 ts hs as i j):j<as.length:=by
 cases h with
 |self=>exact hi
 |step j k _ hk _ _ _=>exact hk
theorem Yd(S)(i):YJ ↑0 (.val (zC i)) (.val (.bl true)) (S++[.dic []])=.ok #[↑0,1] (S++[.dic (rD [i])]):=by unfold YJ;dsimp only;rw[iP ⟨rfl,zM _ _⟩,kQ];rfl
theorem Ki(E: ∀a∈as,AOk ts a)(n:↑10<=4)(hi:i<↑10)(S):
  ∃rs:List Nat,zQ 3 mE [#[ts.map tbl,6],.val (qM hs as),.val (zC i)] S=#[rs.map zC,S,2]/\rs.Nodup/\ ∀j,j∈rs↔B1 ts hs as i j:=by
 refine(Qo (hs:=hs) E n hi S).b λp T W M _=>?_;obtain⟨m,o⟩: ∃m:Sto,m=S++.dic (dT p)::T:=⟨_,rfl⟩
 have L: ∀U:Sto,(m++U)[↑0]? =#[dT p,7]:=λU=>by rw[o,aA];exact NC _ _ _
 have J: ∀a∈as, ∀U:Sto, ∃u,xF 0 (aM a) [none,some (qM hs as),#[↑0]] (m++U)=.ok u (m++U)/\rX u (m++U)=.ok true (m++U)/\eW u (m++U)=#[((RW hs a).filter λx=>!decide (x∈p)).map MV.str,m++U,2]:=λa X U=>by
  have w:=E a X;refine Z1 ([some (aM a),some (qM hs as),#[↑0]]) rfl rfl ?_
  have G:yG (xF 0) eV rW [none,#[↑0]] [] ((RW hs a).map MV.str) (m++U)=.ok (((RW hs a).filter λx=>!decide (x∈p)).map MV.str) (m++U):=
   aP (yX _) λx _=>(Z1 ([#[x,4],#[↑0]]) rfl (by unfold eV;simp? [Qg true (L U) x]) rfl)
  have K:((RW hs a).map MV.str).length<1000000:=by rw[lM0];have:=HV (hs:=hs) w;lia
  have D: ∀a b c:Option MV,AM 1 [2] [a,b,c]=[none,c]:=λ_ _ _=>rfl;unfold eW;simp? [A8 w,vM,K,D,G]
 have v:=NF (f:=aM) as J [];rw[aN,ç,Nat.add_zero]at v;obtain⟨B,z⟩: ∃B:Sto,B=m++(as.map λa=>MO.lst (((RW hs a).filter λx=>!decide (x∈p)).map MV.str))++[.lst ((List.range' m.length ↑10).map MV.loc)]:=⟨_,rfl⟩
 have U:UN B (m.length+↑10) m.length ↑10 (zAM hs p as):=by
  refine⟨?_,λj s=>?_,λj s=>?_⟩
  .rw[z,è (by rw[lA,lM0];exact à _),lA,lM0,sub_self];rfl
  .rw[z,aA,è #[],Nat.add_sub_cancel_left,â (by rw[lM0];exact s),ë,gE s];unfold zAM;rw[ZF (gE s)];rfl
  .unfold zAM;rw[ZF (gE s)];have y:=ĥ (λx=>!decide (x∈p)) (RW hs as[j]);have A:=HV (hs:=hs) (E _ (Ĭ s))
   lia
 refine(ZJ (ts:=ts) (q:=qM hs as) (i:=i) (l0:=↑0) U n (P:=B1 ts hs as i) (λr k C I G=>by
  obtain⟨x,y,A,F⟩:=(Qv M r k).mp G;exact .step r k C I y A F) 10 10000 #[] [i] [i] none none (by rw[lS];lia) (à _) (by simp) (λr C=>by
  rw[mS.mp C];exact⟨hi,.self⟩) (λr h=>h) (λr h hn=>absurd h hn)).p λrs aa o' N O g2 g3 Z=>?_
 refine Z1 rs ?_ g2 (λj=>⟨λh=>(g3 j h).2,λh=>?_⟩)
 .have H: ∃V,AQ B rs []=S++V:=⟨_,by rw[show AQ B rs []=B++[.dic (rD rs),.lst []]from rfl,z,o];simp only[aA];rfl⟩
  obtain⟨V,hV⟩:=H;refine gF (T:=V) rfl ?_ ((kT λd Q=>by refine(mM0.mp Q).a λi _ R=>?_;subst R;exact mY _ _));show yE (sU [#[ts.map tbl,3],some (qM hs as),some (zC i),none,none,none,none,none,none] S)=_;have f1:oB [#[ts.map tbl,3],some (qM hs as),some (zC i),none,none,none,none,none,none] S=#[[#[ts.map tbl,3],some (qM hs as),some (zC i),#[↑0],none,none,none,none,none],m,0]:=by unfold oB;simp? [W];rw[o]
  have D: ∀a b c d e f g h i:Option MV,AM 1 [1,3] [a,b,c,d,e,f,g,h,i]=[none,b,d]:=λ_ _ _ _ _ _ _ _ _=>rfl;have K:(as.map aM).length<1000000:=by rw[lM0];lia
  have Y:oE [#[ts.map tbl,3],some (qM hs as),some (zC i),#[↑0],none,none,none,none,none] m=#[[#[ts.map tbl,3],some (qM hs as),some (zC i),#[↑0],#[m.length+↑10],none,none,none,none],B,0]:=by unfold oE;simp? [AN,HS,K,D,v];rw[z,lA,lM0]
  have f3:oF [#[ts.map tbl,3],some (qM hs as),some (zC i),#[↑0],#[m.length+↑10],none,none,none,none] B=#[[#[ts.map tbl,3],some (qM hs as),some (zC i),#[↑0],#[m.length+↑10],#[↑16],none,none,none],B++[.dic (rD [i])],0]:=by unfold oF;simp? [d1J,Yd]
  have f4:oG [#[ts.map tbl,3],some (qM hs as),some (zC i),#[↑0],#[m.length+↑10],#[↑16],none,none,none] (B++[.dic (rD [i])])=#[SA ts (qM hs as) i ↑0 (m.length+↑10) ↑16 none none,AQ B [i] [i],0]:=by unfold oG;simp? [lst1];rw[lA,aA];rfl
  unfold sU;rw[zD f1,zD Y,zD f3,zD f4,zD (show AB _ _=_ from N)];unfold AC;simp? [Qr (Qs B rs [])];rw[hV];rfl
 .induction h with
  |self=>exact O i mF0
  |@step x j k s hkn y A F ih=>exact Z j ih k hkn ((Qv M j k).mpr (Z1 x y A F))
abbrev Pr:=Nat×Nat
def pD(p:Pr):MV:=.tup [zC p.1,zC p.2]
def Ye(h:pD p=pD q):p=q:=by
 injection h with h
 injection h with h1 h
 injection h with h2 _
 exact Prod.ext (VG h1) (VG h2)
def Cp{T:List Pr}:pD p∈T.map pD↔p∈T:=⟨λh=>by refine(mM0.mp h).a λq a e=>?_;rw[<-Ye e];exact a,λh=>mM0.mpr (Z8 p h rfl)⟩
def NG(T:List Pr): ∀y∈T.map pD,pd y=true/\KH y<40:=λy a=>by refine(mM0.mp a).a λp _ b=>?_;subst b;unfold pD;exact⟨by rw[gT,yS,yS];rfl,by rw[sH,aU,aU,sI,sI];decide⟩
noncomputable def Yf(a b:Pr):Bool:=decide (a.1<b.1\/a.1=b.1/\a.2<b.2)
theorem JB{α:Type}{le:α->α->Prop}: ∀{d m:List α},d.Perm m->d.Pairwise le->m.Pairwise le->(∀a∈d, ∀b∈d,le a b->le b a->a=b)->d=m
 |[],m,p,_,_,_=>p.nil_eq
 |a::d,[],p,_,_,_=>by have:=p.length_eq;simp at this
 |a::d,b::m,p,h1,h2,u=>by
  have c:=Ķ.mp h1;have h:=Ķ.mp h2
  have e:a=b:=by
   rcases mC.mp (p.mem_iff.mp (mF0))with e|m2
   .exact e
   .rcases mC.mp (p.mem_iff.mpr (mF0))with e|m1
    .exact e.symm
    .exact u a mF0 b (mO _ m1) (c.1 b m1) (h.1 a m2)
  subst e;rw[JB (p.cons_inv) c.2 h.2 λx i y j=>u x (mO _ i) y (mO _ j)]
def NH{β:Type}(T:List β):(List.range T.length).filterMap (T[·]?)=T:=by
 induction T with
 |nil=>rfl
 |cons t T ih=>
  rw[lC0,List.range_succ_eq_map,ĝ,List.filterMap_map];show t::List.filterMap (λi=>_[i+1]?) _=_;simp only[List.getElem?_cons_succ];rw[ih]
def NL(S)(a b):KC S zO (pD a) (pD b)=some (Yf a b):=by
 have e:zO=38+1+1:=rfl;show((eqv S (38+1) (zC a.1) (zC b.1)).bind λz=>if z=true then((eqv S _ _ _).bind λz=>if z=true then some false else KC S _ _ _)else KC S _ _ _)=_;rw[show eqv S _ _ _=some _ from lR 38 a.1 b.1,show eqv S _ _ _=some _ from lR 38 a.2 b.2];show(if decide _=true then(if decide _=true then some false else some _)else some _)=_;unfold Yf;split
 .rename_i h;have h:=Ą h;split
  .rename_i c;have c:=Ą c;rw[dF0 (by omega)]
  .exact congrArg some (dec_is (by omega))
 .rename_i h;have h: ¬(a.1:Int)=b.1:=λz=>h (dT0 z);exact congrArg some (dec_is (by omega))
def NN:Yf a b=false↔ ¬(a.1<b.1\/a.1=b.1/\a.2<b.2):=by unfold Yf;exact decide_eq_false_iff_not
def ZK:Yf a b=true↔(a.1<b.1\/a.1=b.1/\a.2<b.2):=by unfold Yf;exact decide_eq_true_iff
def Yg{R:List Pr}(C:R.Perm T)(y:R.Pairwise (λa b=>Yf b a=false))(J:T.length<64)(K:cE S p=some (T.map pD)):RL [p] S=#[R.map pD,S,2]:=by
 have mem: ∀k∈T.map pD, ∃t,k=pD t:=λk L=>by refine(mM0.mp L).a λt _ o=>?_;exact⟨t,o.symm⟩
 have ok:SrtJ S (T.map pD):=by
  refine⟨by rw[lM0];exact J,λd w=>?_,λ_ d w=>?_,⟨λa n b q=>?_,λa n b q c r m o=>?_,λa n b q m=>?_⟩⟩
  .obtain⟨t,rfl⟩:=mem d w;simp[pD,vY,RB]
  .obtain⟨t,rfl⟩:=mem d w;exact Y9 _ _ rfl
  .obtain⟨t,rfl⟩:=mem a n;obtain⟨u,rfl⟩:=mem b q;exact⟨_,NL S t u⟩
  .obtain⟨t,rfl⟩:=mem a n;obtain⟨u,rfl⟩:=mem b q;obtain⟨v,rfl⟩:=mem c r;rw[NL]at m o ⊢;have m:=NN.mp (å m);have o:=NN.mp (å o);rw[NN.mpr (by omega)]
  .obtain⟨t,rfl⟩:=mem a n;obtain⟨u,rfl⟩:=mem b q;rw[NL]at m ⊢;have m:=ZK.mp (å m);rw[NN.mpr (by omega)]
 refine Wx K ok (λN h=>?_) ?_
 .refine h.c λe D G O=>?_;subst O;rw[lM0]at D;have H:=by have:=D.filterMap (T[·]?);rwa [NH]at this
  have z:(e.filterMap (T[·]?)).Pairwise (λa b=>Yf b a=false):=by rw[List.pairwise_filterMap];refine G.imp λ{i j} h b q c r=>?_;have h':=h _ _ (by rw[ë,q];rfl) (by rw[ë,r];rfl);rw[NL]at h';exact å h'
  have M:e.filterMap ((T.map pD)[·]?)=(e.filterMap (T[·]?)).map pD:=by rw[List.map_filterMap];congr 1;funext i;rw[ë]
  rw[M,JB (H.trans C.symm) z y λa _ b _ m o=>by have m:=NN.mp m;have o:=NN.mp o;exact Prod.ext (by omega) (by omega)]
 .have g:(List.range T.length).map (λi=>(T[i]?).getD (0,0))=T:=by rw[MD λi hi=>ø.mp hi,NH]
  refine(RD C.symm _ g).a λe B E=>?_;have s: ∀i,i∈e->i<T.length:=λi hi=>ø.mp (B.mem_iff.mp hi);refine Z1 e (by rw[lM0];exact B) ?_ ?_
  .rw[<-E,pairwise_map]at y;refine List.Pairwise.imp_of_mem (λ{i j} hi I h a c n r=>?_) y;have A:T[i]? =some (T[i]'(s i hi)):=gE _;have F:T[j]? =some (T[j]'(s j I)):=gE _;rw[ë,A]at n;rw[ë,F]at r;cases n;cases r;rw[A,F]at h;rw[NL];exact congrArg some h
  .have z:e.map (λi=>(T[i]?).getD (0,0))=e.filterMap _:=MD s;rw[<-E,z,List.map_filterMap];congr 1;funext i;rw[ë]
noncomputable abbrev NQ(k:Nat):List (Str×MV):=[("place",.int (k:Nat))]
def zDL(h:k<=1000000)(S):zEN c "place" #[(k:Nat),5] S=.exc c (NQ k) S:=iP (Nat.lt_of_le_of_lt (by omega:(k:Int).natAbs<=1000000) ↑21)
theorem VI(a:rs.length=n)(b:F (zP rs S).1 (zP rs S).2=.exc c (NQ k) (S++T)):xW n F rs S=.exc c (NQ k) S:=by unfold xW;rw[iP a,b];show(if(NQ k).all (λp=>LZ p.2)=true then(dY S _ _).bind λ_ d=>R.exc c _ d else R.exc c _ _)=_;rw[XQ (LX _) (λl=>by simp)];rfl
def RX(h:zQ n F rs S=.ok r S'):xW n F rs S=.ok r S':=by
 unfold zQ at h;unfold xW;split at h
 .rename_i a;rw[iP a]
  cases e:F (zP rs S).1 (zP rs S).2 with
  |ok r2 S2=>rw[e]at h;exact h
  |exc c fs S2=>rw[e]at h;cases h
  |no=>rw[e]at h;cases h
 .cases h
theorem Yh(ds)(S):zCL [#[ds,6]] S=.ok ⟨Jf ds,[]⟩ S:=rfl
noncomputable abbrev CT(q:MV)(l:Nat)(p a:T0):Rho:=[some q,#[l],p,a]
theorem KL(h:F ρ S=.exc c fs S'):zL F G ρ S=.exc c fs S':=by unfold zL;rw[h];rfl
theorem Yi(a:gf d ρ S=.ok ρ0 S0)(h:b ρ0 S0=.exc c fs S'):jK gf b gs (d::ds) ρ S=.exc c fs S':=by
 conv=>lhs;unfold jK
 rw[a,aX,h];rfl
noncomputable def KM:List Nat->List (Int×List MV)->Nat->Option Nat
 |_,[],_=>none
 |rs,a::as,k=>if a.1.toNat∈rs then some k else KM (rs++[a.1.toNat]) as (k+1)
theorem B4: ∀ as  rs  k ,rs.Nodup->KM rs as k=none->(rs++as.map λa=>a.1.toNat).Nodup
 |[],rs,k,h,_=>by rw[List.map_nil,aN];exact h
 |a::as,rs,k,h,e=>by
  unfold KM at e;split at e
  .cases e
  .rename_i d;have:=B4 as _ _ (į.mpr ⟨h,by simp,λx b y c=>by rw[mS.mp c];rintro rfl;exact d b⟩) e;rw[aA]at this;exact this
def ctR(S:Sto)(q:MV)(p a:T0)(rs:Db):Option Nat->R Fl
 |none=>#[CT q S.length p a,S++[.dic (rD rs)],0]
 |some j=>.exc "Double" (NQ j) (S++[.dic (rD rs)])
theorem Qw(S): ∀ as  k  rs  p a ,rs.length+↑10<1000->k+↑10<=1000->(∀a∈as,0<=a.1)->
  ∃u v m,jK (Io 2 (wH (xF 2) (wH (xF 3) vS))) wL [] (((as.map aM).zipIdx k).map λp=>.tup [.int (p.2),p.1]) (CT q ↑0 p a) (S++[.dic (rD rs)])=ctR S q u v m (KM rs as k)
 |[],k,rs,p,a,_,_,_=>(Yq p a rs rfl)
 |c::as,k,rs,p,a,hl,hk,h0=>by
  rw[lC0]at hl hk;have z:=h0 c mF0;have i:zC c.1.toNat=.int c.1:=by rw[show zC c.1.toNat=.int ((c.1.toNat:Nat):Int)from rfl,Int.toNat_of_nonneg z]
  have e:=Qq false (zM S (.dic (rD rs))) c.1.toNat;rw[iN0 xF0,i]at e;have h: ∀S:Sto,yC (.val (aM c)) #[0,5] S=.ok #[c.1,5] S:=λ_=>rfl;unfold KM;rw[æ,zipIdx_cons,æ];by_cases d:c.1.toNat∈rs
  .rw[dT0 d]at e;rw[iP d];refine Yq none none rs ?_;have n:yR (CT q ↑0 #[(k:Nat),0] (some (aM c))) (S++[.dic (rD rs)])=.exc "Double" (NQ k) (S++[.dic (rD rs)]):=by unfold yR;simp? [h,e,zDL (show k<=1000000 by lia)]
   exact Yi rfl (by unfold wL;exact KL n)
  .rw[dF0 d]at e;rw[iN0 d];have j:=λo=>Ge (zM S (.dic (rD rs))) #[] d o;rw[i]at j;refine(Qw (q:=q) S as (k+1) (rs++[c.1.toNat]) #[(k:Nat),0] (some (aM c)) (by rw[lA,lS];lia) #[] (λb r=>h0 b (mO _ r))).l λu v m s=>?_;refine Yq u v m ?_;have n:yR (CT q ↑0 #[(k:Nat),0] (some (aM c))) (S++[.dic (rD rs)])=#[CT q ↑0 #[(k:Nat),0] (some (aM c)),S++[.dic (rD rs)],0]:=by unfold yR;exists 7,h,e,fT,iF
   have w:jL (CT q ↑0 #[(k:Nat),0] (some (aM c))) (S++[.dic (rD rs)])=#[CT q ↑0 #[(k:Nat),0] (some (aM c)),S++[.dic (rD (rs++[c.1.toNat]))],0]:=by unfold jL;simp? [h,vK,j,kQ]
   rw[zW (ρ0:=CT q ↑0 #[(k:Nat),0] (some (aM c))) rfl (by unfold wL;rw[zD n];exact w) (yX _)];exact s
theorem B5: ∀ as  rs  k ,(rs++as.map λa=>a.1.toNat).Nodup->KM rs as k=none
 |[],_,_,_=>rfl
 |a::as,rs,k,h=>by unfold KM;rw[iN0 λz=>(į.mp h).2.2 _ z _ mF0 rfl];exact B5 as _ _ (by rw[aA];exact h)
def ctE(S T:Sto):Option Nat->R Er
 |none=>#[.non,S++T,1]
 |some j=>.exc "Double" (NQ j) (S++T)
section
theorem Gg(k:↑10<=4)(c: ∀a∈as,0<=a.1)(S): ∃T,xD [qM hs as] S=ctE S T (KM [] as 0):=by
 obtain⟨d,i,b,e⟩:=Qw S as 0 [] none none (by rw[ç];lia) #[] c;refine⟨[.dic (rD b)],?_⟩;show yE (dO [some _,none,none,none] S)=_;have h:gQ [some (qM hs as),none,none,none] S=#[CT (qM hs as) ↑0 none none,S++[.dic (rD [])],0]:=by unfold gQ;rfl
 have j:gR (CT (qM hs as) ↑0 none none) (S++[.dic (rD [])])=ctR S (qM hs as) d i b (KM [] as 0):=by unfold gR;exact e
 unfold dO;rw[zD h,j];cases KM [] as 0<;>rfl
def Yj(b:↑10<=4)(d: ∀a∈as,0<=a.1)(c:(as.map λa=>a.1.toNat).Nodup)(S):xW 1 xD [.val (qM hs as)] S=#[.non,S,1]:=by obtain⟨T,e⟩:=Gg b d S;rw[B5 as [] 0 c]at e;exact RX (nA rfl e (LX _) (λl=>by simp))
def Qx(c:↑10<=4)(d: ∀a∈as,0<=a.1)(b:KM [] as 0=some j)(S):xW 1 xD [.val (qM hs as)] S=.exc "Double" (NQ j) S:=by obtain⟨T,e⟩:=Gg c d S;rw[b]at e;exact VI rfl e
end
structure QOk(ts:Tk)(as:U0):Prop where
 at': ∀a∈as,AOk ts a
 len:↑10<=4
 pos: ∀a∈as,0<=a.1
 nd:(as.map λa=>a.1.toNat).Nodup
 ne:1<=↑10
open Classical in
def PR(R:Nat->Nat->Prop)(n:Nat):List Pr:=(List.range n).flatMap λa=>((List.range n).filter λb=>decide (b≠a/\R a b)).map λb=>(a,b)
open Classical in
def HW{R:Nat->Nat->Prop}{n:Nat}{p:Pr}:p∈PR R n↔p.1<n/\p.2<n/\p.2≠p.1/\R p.1 p.2:=by
 unfold PR;rw[List.mem_flatMap];constructor
 .rintro⟨a,j,h⟩;obtain⟨b,c,rfl⟩:=mM0.mp h;rw[Ā]at c;exact⟨ø.mp j,ø.mp c.1,Ą c.2⟩
 .rintro⟨d,i,e⟩;exact⟨p.1,ø.mpr d,mM0.mpr ⟨p.2,Ā.mpr ⟨ø.mpr i,dT0 e⟩,rfl⟩⟩
def B6(R)(n):(PR R n).Pairwise (λa b=>Yf a b=true):=by
 unfold PR;rw[List.pairwise_flatMap];refine⟨λa _=>?_,?_⟩
 .rw[pairwise_map];refine List.Pairwise.imp ?_ (List.Pairwise.filter _ List.pairwise_lt_range);intro x y h;exact ZK.mpr (.inr ⟨rfl,h⟩)
 .refine List.pairwise_lt_range.imp λ{a b} h x c y d=>?_;refine(mM0.mp c).a λ_ _ e=>?_;subst e;refine(mM0.mp d).a λ_ _ g=>?_;subst g;exact ZK.mpr (.inl h)
def VJ(b:S[l]? =#[ds,2])(a:↑12+es.length<=1000000):UK #[l,1] [.new es] S=#[.non,S.set l (.lst (ds++es)),1]:=by show FN #[l,1] S (λds=>if ↑12+es.length<=sizeLine then some _ else none)=_;unfold FN;dsimp only;rw[b];dsimp only;rw[iP (fits a)]
section
abbrev SW(ts:Tk)(q:MV)(p o:T0):Rho:=[#[ts.map tbl,3],some q,p,o]
theorem Qy(Q:QOk ts as)(S): ∀ m k (T:List Pr) o ,k+m=↑10->T.length<=4 * k->T.Nodup->(∀p,p∈T↔p.1<k/\p.2≠p.1/\B1 ts hs as p.1 p.2)->
  ∃(q:List Pr)(D:T0),jK (xF 3) DD [] ((List.range' k m).map zC) (SW ts (qM hs as) #[↑0] o) (S++[.lst (T.map pD)])=#[SW ts (qM hs as) #[↑0] D,S++[.lst (q.map pD)],0]/\q.length<=16/\q.Nodup/\ ∀p,p∈q↔p.1<↑10/\p.2≠p.1/\B1 ts hs as p.1 p.2
 |0,k,T,o,hk,hl,hn,h=>(ZB T o rfl (by have:=Q.len;lia) hn (by rw[<-hk];exact h))
 |m+1,k,T,o,hk,hl,hn,h=>by
  have u:k<as.length:=by lia
  refine(Ki (hs:=hs) Q.at' Q.len u (S++[.lst (T.map pD)])).c λv K r i=>?_;have C:=(show v.length<=4 by
    have:=EU r λx A=>ø.mpr (B3 u ((i x).mp A));rw[ñ]at this;have:=Q.len
    lia);have L:=Q.len
  have G:yG (xF 0) BN BO [none,some (zC k)] [] (v.map zC) (S++[.lst (T.map pD)])=.ok (((v.filter λb=>!decide (b=k)).map λb=>(k,b)).map pD) (S++[.lst (T.map pD)]):=by
   rw[ď]
   exact aP (yX _) λb _=>(Z1 ([some (zC b),some (zC k)]) rfl (by
    unfold BN;simp? [ne_int];rw[dec_is (show(b:Int)=k↔b=k by lia)]) (by
    unfold BO;simp? [tup2];rfl))
  obtain⟨N,w⟩: ∃N:List Pr,N=(v.filter λb=>!decide (b=k)).map λb=>(k,b):=⟨_,rfl⟩
  rw[<-w]at G;have I:N.length<=4:=by rw[w,lM0];exact í (ĥ _ _) C
  have n: ∀p,p∈N↔p.1=k/\p.2≠p.1/\B1 ts hs as p.1 p.2:=λp=>by
   rw[w,mM0];constructor
   .rintro⟨b,j,rfl⟩;rw[Ā,i]at j;refine⟨rfl,λe=>?_,j.1⟩;have s:=j.2;rw[dT0 (show b=k from e)]at s;cases s
   .rintro⟨z,s,J⟩;refine⟨p.2,?_,Prod.ext z.symm rfl⟩;rw[Ā,i, <-z,dF0 s];exact⟨J,rfl⟩
  have B:N.Nodup:=by rw[w];unfold List.Nodup;rw[pairwise_map];exact(List.Pairwise.filter _ r).imp λ{x y} h e=>h (congrArg Prod.snd e)
  have E:(v.map zC).length<1000000:=by rw[lM0];lia
  have O:(T.map pD).length+(N.map pD).length<=1000000:=by rw[lM0,lM0];lia
  have j: ∀a b c d:Option MV,AM 1 [3] [a,b,c,d]=[none,d]:=λ_ _ _ _=>rfl;have M:DD (SW ts (qM hs as) #[↑0] (some (zC k))) (S++[.lst (T.map pD)])=#[SW ts (qM hs as) #[↑0] (some (zC k)),S++[.lst ((T++N).map pD)],0]:=by unfold DD IX;simp? [xT (zM S (.lst (T.map pD))),K,vM,E,j,G,VJ (zM S (.lst (T.map pD))) O,kQ];rw[ï]
  refine(Qy Q S m (k+1) (T++N) (some (zC k)) #[] (by rw[lA];lia) (į.mpr ⟨hn,B,λx A y H=>by
   rintro rfl;have z:=(h x).mp A;have s:=(n x).mp H
   lia⟩) (λp=>by
   rw[á,h,n];constructor
   .rintro(⟨a,b,c⟩|⟨a,b,c⟩)
    .exact⟨by lia,b,c⟩
    .exact⟨by lia,b,c⟩
   .rintro⟨a,b,c⟩;by_cases F:p.1=k
    .exact .inr ⟨F,b,c⟩
    .exact .inl ⟨by lia,b,c⟩)).d λq D e g=>?_
  refine Z0 q D ?_ g;rw[range'_succ,æ,zW rfl M (yX _)];exact e
abbrev PQ(ts:Tk)(hs:Ch)(as:U0):List Pr:=PR (B1 ts hs as) as.length
theorem NO(Q:QOk ts as)(S):xW 2 pX [#[ts.map tbl,6],.val (qM hs as)] S=#[(PQ ts hs as).map pD,S,2]:=by
 refine(Qy (hs:=hs) Q S ↑10 0 [] none #[] (à _) nodup_nil (λp=>⟨λh=>by simp at h,λh=>absurd h.1 (Nat.not_lt_zero _)⟩)).g λc v e w k m=>?_;refine RX (gF (T:=[.lst (c.map pD)]) rfl ?_ ((kT λd r=>AG (NG _ d r).1)));show yE (FU (SW ts (qM hs as) none none) S)=_;have s:uA (SW ts (qM hs as) none none) S=#[SW ts (qM hs as) none none,S,0]:=by unfold uA;simp? [Yj Q.len Q.pos Q.nd]
 have u:HK (SW ts (qM hs as) none none) S=#[SW ts (qM hs as) #[↑0] none,S++[.lst []],0]:=by unfold HK;exists 7,rfl
 have j:=Q.len;have q:HL (SW ts (qM hs as) #[↑0] none) (S++[.lst []])=#[SW ts (qM hs as) #[↑0] v,S++[.lst (c.map pD)],0]:=by unfold HL;simp? [AN,iA,lM0,ND (n:=↑10) #[]];rw[range_eq_range'];exact e
 have o:(PQ ts hs as).Perm c:=(List.perm_ext_iff_of_nodup (((B6 _ _).imp λ{a b} h e=>by
   subst e;have:=ZK.mp h
   lia)) k).mpr λp=>by rw[HW,m];exact⟨λh=>⟨h.1,h.2.2⟩,λh=>⟨h.1,B3 h.1 h.2.2,h.2⟩⟩
 have i:=Yg o ((B6 _ _).imp λ{a b} h=>NN.mpr (by have:=ZK.mp h;lia)) #[] (nB (zM S _));unfold FU;rw[zD s,zD u,zD q];unfold RU;simp? [i];rfl
def Lh(L:List Pr):Option Pr:=L.find? λp=>decide ((p.2,p.1)∈L)
def rgE:Option Pr->Er
 |none=>.val .non
 |some p=>.new [zC p.1,zC p.2]
def rgR:Option Pr->Rho->Fl
 |none,ρ=>.next ρ
 |some p,_=>.ret (.new [zC p.1,zC p.2])
abbrev RG(ts:Tk)(q:MV)(l:Nat)(a b:T0):Rho:=[#[ts.map tbl,3],some q,#[l],a,b]
theorem Qz{L:List Pr}(h:S[l]? =#[L.map pD,2]): ∀(M:List Pr) a b , ∃m b',jK (Io 2 (wH (xF 3) (wH (xF 4) vS))) FV [(l,L.map pD)] (M.map pD) (RG ts q l a b) S=.ok (rgR (M.find? λp=>decide ((p.2,p.1)∈L)) (RG ts q l m b')) S
 |[],a,b=>(Y9 a b rfl)
 |p::M,a,b=>by
  have d:=mL false h (NG [(p.2,p.1)] _ mF0).1 (NG L);rw[iN0 xF0,dec_is (Cp)]at d;have d:BC false #[[zC p.2,zC p.1],6] _ S=.ok _ S:=d;rw[æ];by_cases c:(p.2,p.1)∈L
  .rw[dT0 c]at d;refine Y9 a b ?_;rw[List.find?_cons_of_pos (by exact dT0 c)];refine Eg rfl ?_;unfold FV ET;exists 7,d
  .rw[dF0 c]at d;obtain⟨m,b',e⟩:=Qz h M _ _;refine Y9 m b' ?_;rw[List.find?_cons_of_neg (by rw[dF0 c];exact xF0)];rw[zW rfl (by unfold FV ET;simp? [tup2,d];rfl) (nE h)];exact e
def VL(Q:QOk ts as)(S):xW 2 sV [#[ts.map tbl,6],.val (qM hs as)] S=.ok (rgE (Lh (PQ ts hs as))) S:=by
 obtain⟨L,j⟩: ∃L,L=PQ ts hs as:=⟨_,rfl⟩
 rw[<-j];have c:=NO (hs:=hs) Q S;rw[<-j]at c;obtain⟨n,k,e⟩:=Qz (ts:=ts) (L:=L) (zM S _) L none none;have m:BP [#[ts.map tbl,3],some (qM hs as),none,none,none] S=#[RG ts (qM hs as) ↑0 none none,S++[.lst (L.map pD)],0]:=by unfold BP;simp? [c]
 have h:MW (RG ts (qM hs as) ↑0 none none) (S++[.lst (L.map pD)])=.ok (rgR (Lh L) (RG ts (qM hs as) ↑0 n k)) (S++[.lst (L.map pD)]):=by unfold MW;exists 7,rR (zM S _),e
 have a: ∀_:Unit,yE (MX [some _,some (qM hs as),none,none,none] S)=.ok (rgE (Lh L)) _:=λ_=>by
  unfold MX;rw[zD m]
  cases b:Lh L with
  |none=>
   rw[b]at h;rw[zD h];rfl
  |some p=>
   rw[b]at h;rw[pM h];rfl
 have a:=a ()
 cases b:Lh L with
 |none=>
  rw[b]at a;exact RX (nA rfl a (LX _) (λl=>by simp))
 |some p=>
  rw[b]at a
  exact RX (gF rfl a (kT λd i=>by
   rcases mC.mp i with rfl|i
   .exact mY _ _
   .rw[mS.mp i];exact mY _ _))
end
noncomputable def WJ:List Nat:=[97,98,99,100,101,102,103,104,105,106,107,108,109,110,111,112,113,114,115,116,117,118,119,120,121,122]
def Cq(i)(S): ∃k,yC (.val (.str WJ)) #[i % 26,5] S=#[.str [k],S,1]:=by obtain⟨k,a⟩:=uU (xs:=WJ) (i:=i % 26) (eN0 _ ↑4) (by have:=eL i (show _<26 by decide);show i % 26<26;exact this);exact⟨k,ix_str (by rw[ô];decide) a⟩
theorem Ra(h:x.length+y.length<=1000)(S):yW (.val (.str x)) (.val (.str y)) S=#[.str (x++y),S,1]:=add_str (fits #[])
abbrev NI(c:Int)(m:T0)(x:Db)(o:T0):Rho:=[#[c,0],#[WJ,4],m,#[x,4],o]
theorem Rb(m)(S): ∀ ds  c  x  o ,x.length+↑12<=900-> ∃c' q u,jK (xF 4) cK [] ds (NI c m x o) S=#[NI c' m q u,S,0]/\q.length=x.length+↑12
 |[],c,x,o,_=>(Zf c x o rfl rfl)
 |d::ds,c,x,o,h=>by
  rw[lC0]at h;obtain⟨k,v⟩:=Cq c S;have a:jZ (NI c m x (some d)) S=#[NI c m (x++[k]) (some d),S,0]:=by unfold jZ;simp? [mod_lit (show _<26 by decide),v,Ra (x:=x) (y:=[k]) (by rw[lS];lia)]
  have b:hW (NI c m (x++[k]) (some d)) S=#[NI (c / 26) m (x++[k]) (some d),S,0]:=by unfold hW;exists 7,yF (show _<26 by decide) ↑4
  obtain⟨c',q,u,e,i⟩:=Rb m S ds _ (x++[k]) _ (by rw[lA,lS];lia);refine Zf c' q u ?_ (by rw[i,lA,lS,lC0];lia);rw[zW (ρ0:=NI c m x _) rfl (by unfold cK;rw[zD a];exact b) (yX _)];exact e
theorem Gh(c)(S): ∃x c',zQ 1 jN [#[c,5]] S=.ok #[[.str x,.int c'],6] S/\x.length<=8:=by
 have r:=eN0 c (show(8:Int)≠0 by decide);have q:=eL c (show(0:Int)<8 by decide);obtain⟨c',b,o,e,p⟩:=Rb _ S ((List.range (1+c % 8).toNat).map λk=>.int (k:Nat)) (c / 8) [] none (by rw[lM0,ñ,ç];lia);rw[lM0,ñ,ç]at p;refine Z0 b c' ?_ (by lia)
 refine iS rfl ?_ (uT (kT λd a=>by
  rcases mC.mp a with rfl|a
  .exact GZ _ _
  .rw[mS.mp a];exact mY _ _)) (λl=>by simp)
 show yE (fE [#[c,0],none,none,none,none] S)=_;have m:cL [#[c,0],none,none,none,none] S=#[[#[c,0],#[WJ,4],none,none,none],S,0]:=by unfold cL;exists 7,rfl
 have n:cN [#[c,0],#[WJ,4],none,none,none] S=#[[#[c,0],#[WJ,4],#[1+c % 8,0],none,none],S,0]:=by unfold cN;exists 7,mod_lit (show(0:Int)<8 by decide)
 have j:cO [#[c,0],#[WJ,4],#[1+c % 8,0],none,none] S=#[[#[c / 8,0],#[WJ,4],#[1+c % 8,0],none,none],S,0]:=by unfold cO;exists 7,yF (show(0:Int)<8 by decide) ↑4
 have h:cP [#[c / 8,0],#[WJ,4],#[1+c % 8,0],none,none] S=#[NI (c / 8) #[1+c % 8,0] [] none,S,0]:=by unfold cP;exists 7,rfl
 have i:cQ (NI (c / 8) #[1+c % 8,0] [] none) S=#[NI c' #[1+c % 8,0] b o,S,0]:=by unfold cQ;exists 7,LY (show -(2 ^ 62)<=(1+c % 8)/\(1+c % 8)<2 ^ 62 by omega),e
 unfold fE;rw[zD m,zD n,zD j,zD h,zD i];unfold iV;exists 7,rfl
noncomputable abbrev WD(c:Int)(l:Nat)(k w o:T0):Rho:=[#[c,0],#[6,0],#[l],k,w,o]
abbrev Ws(ws:Ch):Prop:= ∀x∈ws,x.length<=8
theorem Cr{ws:Ch}(S): ∀(ds:Ch) x  o ,x.length<=8->(∀d∈ds,d.length=1)-> ∃m q,jK (xF 5) yP [] #[ds,8] (WD c ↑0 k #[x,4] o) (S++[.lst #[ws,8]])=#[WD c ↑0 k #[m,4] q,S++[.lst #[ws,8]],0]/\m.length<=8
 |[],x,o,h,_=>(Z0 x o rfl h)
 |d::ds,x,o,h,hd=>by
  have u:=hd d mF0;have a:=mL false (zM S (.lst #[ws,8])) (tL x) DF;rw[iN0 xF0]at a;by_cases j:MV.str x∈ws.map MV.str
  .rw[dT0 j]at a;have n:(x.take 7).length<=7:=by rw[lT];lia
   refine(Cr (c:=c) (k:=k) (ws:=ws) S ds (x.take 7++d) #[d,4] (by rw[lA];lia) (λy b=>hd y (mO _ b))).d λm q e i=>?_;refine Z0 m q ?_ i;rw[æ,zW (ρ':=WD c ↑0 k #[x.take 7++d,4] #[d,4]) (S':=S++[.lst #[ws,8]]) rfl (by unfold yP yY;simp? [a,cut_str (fits (show x.length<=1000000 by lia)),lU x 7 ↑4,show(7:Int).toNat=7 from rfl,Ra (x:=x.take 7) (y:=d) #[]]) (yX _)];exact e
  .rw[dF0 j]at a;obtain⟨m,q,e,i⟩:=Cr (c:=c) (k:=k) (ws:=ws) S ds x _ h (λy b=>hd y (mO _ b));refine Z0 m q ?_ i;rw[æ,zW (ρ':=WD c ↑0 k #[x,4] #[d,4]) (S':=S++[.lst #[ws,8]]) rfl (by unfold yP yY;exists 7,a,fT,iF) (yX _)];exact e
noncomputable def abj:List Nat:=[97,98,99,100,101,102,103,104,105,106]
theorem Re(S): ∀ ds  c  ws  k w o ,ws.length+↑12<=100->Ws ws-> ∃c' m k' v u,jK (xF 3) xK [] ds (WD c ↑0 k w o) (S++[.lst #[ws,8]])=#[WD c' ↑0 k' v u,S++[.lst #[m,8]],0]/\m.length=ws.length+↑12/\Ws m
 |[],c,ws,k,w,o,_,h=>(Y2 c ws k w o ⟨rfl,rfl,h⟩)
 |d::ds,c,ws,k,w,o,hl,h=>by
  rw[lC0]at hl;refine(Gh c (S++[.lst #[ws,8]])).d λx q B z=>?_;have s:yZ (WD c ↑0 (some d) w o) (S++[.lst #[ws,8]])=#[WD q ↑0 (some d) #[x,4] o,S++[.lst #[ws,8]],0]:=by unfold yZ;exists 7,B,vK
  refine(Cr (c:=q) (k:=some d) (ws:=ws) S (abj.map λc=>[c]) x o z ↑4).d λa u A j=>?_;have C:xA (WD q ↑0 (some d) #[x,4] o) (S++[.lst #[ws,8]])=#[WD q ↑0 (some d) #[a,4] u,S++[.lst #[ws,8]],0]:=by unfold xA;exists 7,A
  have r:xB (WD q ↑0 (some d) #[a,4] u) (S++[.lst #[ws,8]])=#[WD q ↑0 (some d) #[a,4] u,S++[.lst ((ws++[a]).map MV.str)],0]:=by unfold xB;simp? [xT (zM S (.lst #[ws,8])),dH (zM S (.lst #[ws,8])) (by rw[lM0];lia),kQ];rw[ï];rfl
  refine(Re S ds q (ws++[a]) (some d) #[a,4] u (by rw[lA,lS];lia) (λy b=>by
   rcases á.mp b with b|b
   .exact h y b
   .rw[mS.mp b];exact j)).q λc' m k' v i g=>g.e λe p n=>?_
  refine Y2 c' m k' v i ⟨?_,(by rw[p,lA,lS,lC0];lia),n⟩;rw[zW (ρ0:=WD c ↑0 (some d) w o) rfl (by unfold xK;rw[zD s,zD C];exact r) (yX _)];exact e
def GB(ws:Ch)(n):DI n #[ws,8]:=kT λd a=>by refine(mM0.mp a).a λx _ b=>?_;subst b;exact GZ _ _
theorem Kj(c)(S): ∃ws:List (List Nat),ws.length=6/\Ws ws/\zQ 2 wC [#[c,5],#[6,5]] S=#[ws.map MV.str,S,2]:=by
 refine(Re S ((List.range 6).map λk=>.int (k:Nat)) c [] none none none ↑4 (λx b=>by simp at b)).q λa ws k w o g=>g.e λe i hw=>?_;refine Z1 ws i hw ?_;refine BF rfl ?_ (à _) (zM _ _) (GB _ _);show yE (wA [some _,some _,none,none,none,none] S)=_;have d:xL [#[c,0],#[6,0],none,none,none,none] S=#[WD c ↑0 none none none,S++[.lst []],0]:=by unfold xL;exists 7,rfl
 have h:xN (WD c ↑0 none none none) (S++[.lst []])=#[WD a ↑0 k w o,S++[.lst #[ws,8]],0]:=by unfold xN;exists 7,X7,e
 unfold wA;rw[zD d,zD h];unfold kW;exists 7,rfl
abbrev WW(c:Int)(g s:T0)(l:Nat)(k w j z:T0):Rho:=[#[c,0],#[6,0],#[WJ,4],g,s,#[l],k,w,j,z]
noncomputable abbrev WV(c:Int)(a g s l:T0):Rho:=[#[c,0],#[6,0],a,g,s,l,none,none,none,none]
theorem Yk(c g s)(l k j)(p:j<100)(x)(o:x.length<=100)(z)(S): ∃a d,bS (WW c #[g,0] #[s,0] l (some (zC k)) #[x,4] (some (zC j)) z) S=#[WW c #[g,0] #[s,0] l (some (zC k)) #[x++[a],4] (some (zC j)) d,S,0]:=by
 obtain⟨v,m⟩: ∃v:Int,v=c / (49+5 * (j:Int))+(j:Int) * (c / 49 % 3):=⟨_,rfl⟩
 have e:cS (WW c #[g,0] #[s,0] l (some (zC k)) #[x,4] (some (zC j)) z) S=#[WW c #[g,0] #[s,0] l (some (zC k)) #[x,4] (some (zC j)) #[v,0],S,0]:=by unfold cS;simp? [eE (a:=5) ↑4,yF (b:=49+5 * (j:Int)) #[] #[],yF (show _<49 by decide) ↑4,mod_lit (show(0:Int)<3 by decide),eE (a:=(j:Int)) #[]];rw[m]
 obtain⟨u,i⟩: ∃u:Int,cT (WW c #[g,0] #[s,0] l (some (zC k)) #[x,4] (some (zC j)) #[v,0]) S=#[WW c #[g,0] #[s,0] l (some (zC k)) #[x,4] (some (zC j)) #[u,0],S,0]:=by
  unfold cT;by_cases h:(j:Int)=s
  .refine⟨v+3 * (k:Int),?_⟩;exists 7,h,Đ,eE (a:=3) ↑4
  .refine⟨v,?_⟩;exists 7,h,ġ,fT,iF
 obtain⟨a,n⟩:=Cq u S;refine⟨a,#[u,0],?_⟩;unfold bS;rw[zD e,zD i];unfold iW;simp? [mod_lit (show(0:Int)<26 by decide),n,Ra (x:=x) (y:=[a]) (by rw[lS];lia)]
theorem Rf(c g s)(l k)(S): ∀(d:Db),(∀j∈d,j<100)-> ∀ x  j z ,x.length+d.length<=100-> ∃m u q,jK (xF 8) bS [] (d.map zC) (WW c #[g,0] #[s,0] l (some (zC k)) #[x,4] j z) S=#[WW c #[g,0] #[s,0] l (some (zC k)) #[m,4] u q,S,0]/\m.length=x.length+d.length
 |[],_,x,j,z,_=>(Zf x j z rfl rfl)
 |i::d,hj,x,j,z,h=>by rw[lC0]at h;refine(Yk c g s l k i (hj i mF0) x #[] z S).j λa B v=>?_;obtain⟨m,u,q,e,n⟩:=Rf c g s l k S d (λy b=>hj y (mO _ b)) (x++[a]) _ B (by rw[lA,lS];lia);refine Zf m u q ?_ (by rw[n,lA,lS,lC0];lia);rw[æ,zW rfl v (yX _)];exact e
theorem Rg(c g s)(A:1<=g/\g<=7)(S): ∀(m:Db)(ws:Ch) k w j z ,ws.length+m.length<=100->(∀x∈ws,x.length<=7)-> ∃(d:Ch)(k' u v q:T0),jK (xF 6) fF [] (m.map zC) (WW c #[g,0] #[s,0] ↑0 k w j z) (S++[.lst #[ws,8]])=#[WW c #[g,0] #[s,0] ↑0 k' u v q,S++[.lst #[d,8]],0]/\d.length=ws.length+m.length/\ ∀x∈d,x.length<=7
 |[],ws,k,w,j,z,_,h=>(Y2 ws k w j z ⟨rfl,rfl,h⟩)
 |i::m,ws,k,w,j,z,hl,h=>by
  rw[lC0]at hl;have D:cU (WW c #[g,0] #[s,0] ↑0 (some (zC i)) w j z) (S++[.lst #[ws,8]])=#[WW c #[g,0] #[s,0] ↑0 (some (zC i)) #[[],4] j z,S++[.lst #[ws,8]],0]:=by unfold cU;exists 7,rfl
  refine(Rf c g s ↑0 i (S++[.lst #[ws,8]]) (List.range g.toNat) (λy a=>by have:=ø.mp a;omega) [] j z (by rw[ç,ñ];omega)).m λx n b C o=>?_;rw[ç,ñ]at o;have E:cW (WW c #[g,0] #[s,0] ↑0 (some (zC i)) #[[],4] j z) (S++[.lst #[ws,8]])=#[WW c #[g,0] #[s,0] ↑0 (some (zC i)) #[x,4] n b,S++[.lst #[ws,8]],0]:=by unfold cW;exists 7,LY (show -(2 ^ 62)<=g/\g<2 ^ 62 by omega),C
  have B:cX (WW c #[g,0] #[s,0] ↑0 (some (zC i)) #[x,4] n b) (S++[.lst #[ws,8]])=#[WW c #[g,0] #[s,0] ↑0 (some (zC i)) #[x,4] n b,S++[.lst ((ws++[x]).map MV.str)],0]:=by unfold cX;simp? [xT (zM S (.lst #[ws,8])),dH (zM S (.lst #[ws,8])) (by rw[lM0];omega),kQ];rw[ï];rfl
  refine(Rg c g s A S m (ws++[x]) (some (zC i)) #[x,4] n b (by rw[lA,lS];omega) (λy a=>by
   rcases á.mp a with a|a
   .exact h y a
   .rw[mS.mp a];omega)).q λd k' u v q F=>F.e λe r p=>?_
  refine Y2 d k' u v q ⟨?_,(by rw[r,lA,lS,lC0];lia),p⟩;rw[æ,zW (ρ0:=WW c #[g,0] #[s,0] ↑0 (some (zC i)) w j z) rfl (by unfold fF;rw[zD D,zD E];exact B) (yX _)];exact e
theorem Rh(c)(S): ∃ws:List (List Nat),ws.length=6/\Ws ws/\zQ 2 qA [#[c,5],#[6,5]] S=#[ws.map MV.str,S,2]:=by
 by_cases u:c % 2=0
 .refine(Kj (c / 2) S).c λws i hw e=>?_;refine Z1 ws i hw ?_;refine gF (T:=[]) rfl ?_ (GB _ _);rw[aN];show yE (cY (WV c none none none none) S)=_;have F:jO (WV c none none none none) S=.ok (.ret (.new #[ws,8])) S:=by unfold jO;exists 7,mod_lit ↑34,u,Đ,yF (b:=2) ↑4 ↑4,e
  unfold cY;rw[pM F];rfl
 .obtain⟨d,E⟩: ∃d:Int,d=c * 69621 % 2147483629 * 48271 % 2147483647:=⟨_,rfl⟩
  have O:=eN0 d (show(7:Int)≠0 by decide);have N:=eL d (show(0:Int)<7 by decide);obtain⟨g,D⟩: ∃g:Int,g=1+d % 7:=⟨_,rfl⟩
  obtain⟨s,hs⟩: ∃s:Int,s=d / 7 % g:=⟨_,rfl⟩
  refine(Rg d g s #[] S (List.range 6) [] none none none none ↑4 (λx n=>by simp at n)).q λws k w j z P=>P.e λI i hw=>?_;have i:ws.length=6:=i;have L:jO (WV c none none none none) S=#[WV c none none none none,S,0]:=by unfold jO;exists 7,mod_lit ↑34,u,ġ,fT,iF
  have M:fG (WV c none none none none) S=#[WV c #[WJ,4] none none none,S,0]:=by unfold fG;exists 7,rfl
  have K:fH (WV c #[WJ,4] none none none) S=#[WV d #[WJ,4] none none none,S,0]:=by unfold fH;simp? [UE (show -(2 ^ 64)<(69621:Int)/\(69621:Int)<2 ^ 64 by decide),mod_lit (show(0:Int)<2147483629 by decide),UE (show -(2 ^ 64)<(48271:Int)/\(48271:Int)<2 ^ 64 by decide),mod_lit (show(0:Int)<2147483647 by decide)];rw[E]
  have J:fK (WV d #[WJ,4] none none none) S=#[WV d #[WJ,4] #[g,0] none none,S,0]:=by unfold fK;simp? [mod_lit (show(0:Int)<7 by decide)];rw[D]
  have A:fM (WV d #[WJ,4] #[g,0] none none) S=#[WV d #[WJ,4] #[g,0] #[s,0] none,S,0]:=by unfold fM;simp? [yF (b:=7) ↑4 ↑4,mod_lit (show(0:Int)<g by lia)];rw[hs]
  have G:fN (WV d #[WJ,4] #[g,0] #[s,0] none) S=#[WW d #[g,0] #[s,0] ↑0 none none none none,S++[.lst []],0]:=by unfold fN;exists 7,rfl
  have v:fO (WW d #[g,0] #[s,0] ↑0 none none none none) (S++[.lst []])=#[WW d #[g,0] #[s,0] ↑0 k w j z,S++[.lst #[ws,8]],0]:=by unfold fO;exists 7,X7,I
  obtain⟨h,C,o,q⟩: ∃h:List (List Nat),fP (WW d #[g,0] #[s,0] S.length k w j z) (S++[.lst #[ws,8]])=.ok _ (S++[.lst #[h,8]])/\h.length=6/\Ws h:=by
   unfold fP;by_cases r:d / 49 % 4=1
   .obtain⟨a,H⟩:=Cq (d / 196) (S++[.lst #[ws,8]]);have n:ws[0]? =some (ws[0]'#[]):=gE _;have B:=hw _ (Ĭ (show 0<ws.length by lia));have p:yC #[↑0,1] #[0,5] (S++[.lst #[ws,8]])=#[.str ws[0],S++[.lst #[ws,8]],1]:=aH (zM _ _) (iC (k:=0) (by rw[ë,n];rfl));refine Z1 (ws.set 1 (ws[0]++[a])) ?_ (by rw[ą];exact i) (λy m=>?_)
    .simp? [yF (b:=49) ↑4 ↑4,mod_lit (show(0:Int)<4 by decide),r,Đ,p,yF (show(0:Int)<196 by decide) ↑4,mod_lit (show(0:Int)<26 by decide),H,Ra (x:=ws[0]) (y:=[a]) (by rw[lS];lia),vK,Py (k:=1) (j:=1) (zM S (.lst #[ws,8])) (by unfold Af;rw[lM0,i];rfl),kQ];rw[List.map_set]
    .rcases List.mem_or_eq_of_mem_set m with m|rfl
     .have:=hw y m;lia
     .rw[lA,lS];lia
   .refine(Z1 ws ?_ i (λy m=>by have:=hw y m;lia));exists 7,yF (b:=49) ↑4 ↑4,mod_lit (show(0:Int)<4 by decide),r,ġ,fT,iF
  refine Z1 h o q ?_;refine BF (T:=[.lst #[h,8]]) rfl ?_ (à _) (zM _ _) (GB _ _);show yE (cY (WV c none none none none) S)=_;unfold cY;rw[zD L,zD M,zD K,zD J,zD A,zD G,zD v,zD C];unfold qS;exists 7,rfl
def vN(c:S[l]? =#[ds,2])(a b):dN #[l,1] a b S=#[iE ds a b,S,2]:=by show(match cE S _ with |some ds=>R.ok _ S|none=>.no)=_;rw[nB c]
theorem Gi(ds)(a b)(S):dN (.new ds) a b S=#[iE ds a b,S,2]:=rfl
def Gj(ns:Za)(n):DI n ↑22:=kT λd a=>by refine(mM0.mp a).a λx _ b=>?_;subst b;exact mY _ _
abbrev DW(c:Int)(m l:Nat)(r k n:T0):Rho:=[#[c,0],some (zC m),#[l],r,k,n]
theorem Gk(c)(m)(n)(S): ∀ u (ns:Za) r  k ,ns.length+u.length<=100-> ∃(q:Za)(r':Int)(k':T0),jK (xF 4) bT [] u (DW c m ↑0 #[r,0] k n) (S++[.lst ↑22])=#[DW c m ↑0 #[r',0] k' n,S++[.lst (q.map MV.int)],0]/\q.length=ns.length+u.length
 |[],ns,r,k,_=>(Zf ns r k rfl rfl)
 |d::u,ns,r,k,h=>by
  rw[lC0]at h;have v:cZ (DW c m ↑0 #[r,0] (some d) n) (S++[.lst ↑22])=#[DW c m ↑0 #[r,0] (some d) n,S++[.lst ((ns++[r % 1000000]).map MV.int)],0]:=by unfold cZ;simp? [xT (zM S (.lst ↑22)),mod_lit (show(0:Int)<1000000 by decide),dH (zM S (.lst ↑22)) (by rw[lM0];lia),kQ];rw[ï];rfl
  have b:dA (DW c m ↑0 #[r,0] (some d) n) (S++[.lst ((ns++[r % 1000000]).map MV.int)])=#[DW c m ↑0 #[r / 1000000,0] (some d) n,S++[.lst ((ns++[r % 1000000]).map MV.int)],0]:=by unfold dA;exists 7,yF (show(0:Int)<1000000 by decide) ↑4
  refine(Gk c m n S u (ns++[r % 1000000]) (r / 1000000) (some d) (by rw[lA,lS];lia)).m λq r' k' e a=>?_;refine Zf q r' k' ?_ (by rw[a,lA,lS,lC0];lia);rw[zW (ρ0:=DW c m ↑0 #[r,0] (some d) n) rfl (by unfold bT;rw[zD v];exact b) (yX _)];exact e
theorem Gn(c)(m)(r)(S): ∀(z:Db)(ns:Za) n  k ,ns.length+z.length<=100->0<=n/\n<4294967296-> ∃(q:Za)(B:Int)(k':T0),jK (xF 4) fQ [] (z.map zC) (DW c m ↑0 r k #[n,0]) (S++[.lst ↑22])=#[DW c m ↑0 r k' #[B,0],S++[.lst (q.map MV.int)],0]/\q.length=ns.length+z.length
 |[],ns,n,k,_,_=>⟨ns,n,k,rfl,rfl⟩
 |d::z,ns,n,k,h,hn=>by
  rw[lC0]at h;obtain⟨v,D⟩: ∃v:Int,v=(n * n+48271 * n+(d:Int)) % 2147483647:=⟨_,rfl⟩
  have b:0<=v/\v<4294967296:=by
   have s:=eN0 (n * n+48271 * n+(d:Int)) (show(2147483647:Int)≠0 by decide);have w:=eL (n * n+48271 * n+(d:Int)) (show(0:Int)<2147483647 by decide)
   lia
  have j:dB (DW c m ↑0 r (some (zC d)) #[n,0]) (S++[.lst ↑22])=#[DW c m ↑0 r (some (zC d)) #[v,0],S++[.lst ↑22],0]:=by unfold dB;simp? [eE (a:=n) #[],eE (a:=48271) ↑4,mod_lit (show(0:Int)<2147483647 by decide)];rw[D]
  obtain⟨u,i⟩: ∃u:Int,u=v * 69621 % 2147483587 / 16:=⟨_,rfl⟩
  have p:dC (DW c m ↑0 r (some (zC d)) #[v,0]) (S++[.lst ↑22])=#[DW c m ↑0 r (some (zC d)) #[v,0],S++[.lst ((ns++[u]).map MV.int)],0]:=by unfold dC;simp? [xT (zM S (.lst ↑22)),UE (show -(2 ^ 64)<(69621:Int)/\(69621:Int)<2 ^ 64 by decide),mod_lit (show(0:Int)<2147483587 by decide),yF (show(0:Int)<16 by decide) ↑4,dH (zM S (.lst ↑22)) (by rw[lM0];lia),kQ];rw[ï,i];rfl
  obtain⟨q,B,k',e,o⟩:=Gn c m r S z (ns++[u]) v (some (zC d)) (by rw[lA,lS];lia) b;refine⟨q,B,k',?_,by rw[o,lA,lS,lC0];lia⟩;rw[æ,zW (ρ0:=DW c m ↑0 r (some (zC d)) #[n,0]) rfl (by unfold fQ;rw[zD j];exact p) (yX _)];exact e
theorem NP(c)(w:m<=10)(S): ∃ns:List Int,ns.length=m/\zQ 2 yI [#[c,5],.val (zC m)] S=#[ns.map MV.int,S,2]:=by
 have j:fR [#[c,0],some (zC m),none,none,none,none] S=#[DW c m ↑0 none none none,S++[.lst []],0]:=by unfold fR;exists 7,rfl
 by_cases i:c % 2=0
 .refine(Gk c m none S ((List.range m).map λk=>.int (k:Nat)) [] (c / 2) none (by rw[lM0,ñ,ç];lia)).m λns o d e a=>?_;rw[lM0,ñ,ç,Į]at a;refine⟨ns,a,?_⟩;refine BF (T:=[.lst ↑22]) rfl ?_ (à _) (zM _ _) (Gj _ _);show yE (dE [#[c,0],some (zC m),none,none,none,none] S)=_;have r:(CJ (dJ gP (vJ 0) ↑19) 3) (DW c m ↑0 none none none) (S++[.lst []])=#[DW c m ↑0 #[c / 2,0] none none,S++[.lst []],0]:=by exists 7,yF (b:=2) ↑4 ↑4
  have s:(FJ (bJ ↑45 kG) (xF 4) (bT)) (DW c m ↑0 #[c / 2,0] none none) (S++[.lst []])=#[DW c m ↑0 #[o,0] d none,S++[.lst ↑22],0]:=by simp? [ND (n:=m) #[]];exact e
  have h:jP (DW c m ↑0 none none none) (S++[.lst []])=.ok (.ret #[↑0,1]) (S++[.lst ↑22]):=by unfold jP;simp? [mod_lit ↑34,i,Đ];rw[zD r,zD s];rfl
  unfold dE;rw[zD j,pM h];rfl
 .have v:=eN0 c (show(2147483629:Int)≠0 by decide);have y:=eL c (show(0:Int)<2147483629 by decide);refine(Gn c m none S (List.range m) [] (c % 2147483629+1) none (by rw[ñ,ç];lia) #[]).m λns u d e a=>?_;rw[ñ,ç,Į]at a;refine⟨ns,a,?_⟩;refine BF (T:=[.lst ↑22]) rfl ?_ (à _) (zM _ _) (Gj _ _);show yE (dE [#[c,0],some (zC m),none,none,none,none] S)=_;have h:jP (DW c m ↑0 none none none) (S++[.lst []])=#[DW c m ↑0 none none none,S++[.lst []],0]:=by unfold jP;exists 7,mod_lit ↑34,i,ġ,fT,iF
  have q:fS (DW c m ↑0 none none none) (S++[.lst []])=#[DW c m ↑0 none none #[c % 2147483629+1,0],S++[.lst []],0]:=by unfold fS;exists 7,mod_lit (show(0:Int)<2147483629 by decide)
  have p:fU (DW c m ↑0 none none #[c % 2147483629+1,0]) (S++[.lst []])=#[DW c m ↑0 none d #[u,0],S++[.lst ↑22],0]:=by unfold fU;simp? [ND (n:=m) #[]];exact e
  unfold dE;rw[zD j,zD h,zD q,zD p];rfl
noncomputable abbrev TB(c:Int)(l:Nat)(n w:T0):Rho:=[#[c,0],#[l],#[l+1],n,w]
theorem Ri(c)(S)(o): ∀(ns:Za)(ts:Tk) n w ,ts.length+ns.length<=100->(∀p∈ts,1<=p.1/\p.1<=4/\0<=p.2/\p.2<=p.1)-> ∃(m:Tk)(u B:T0),jK (xF 3) nR [] ↑22 (TB c ↑0 n w) (S++[o]++[.lst (ts.map tbl)])=#[TB c ↑0 u B,S++[o]++[.lst (m.map tbl)],0]/\m.length=ts.length+ns.length/\ ∀p∈m,1<=p.1/\p.1<=4/\0<=p.2/\p.2<=p.1
 |[],ts,n,w,_,h=>(Y3 ts n w rfl rfl h)
 |d::ns,ts,n,w,hl,h=>by
  rw[lC0]at hl;obtain⟨v,D⟩: ∃v:Int,v=1+d % 3+(if decide (d / 3 % 5=0)=true then 1 else 0):=⟨_,rfl⟩
  have q:1<=v/\v<=4:=by have J:=eN0 d (show(3:Int)≠0 by decide);have K:=eL d (show(0:Int)<3 by decide);rw[D];split<;>lia
  have H:gV (TB c ↑0 #[d,0] w) (S++[o]++[.lst (ts.map tbl)])=#[TB c ↑0 #[d,0] #[v,0],S++[o]++[.lst (ts.map tbl)],0]:=by unfold gV;simp? [mod_lit (show(0:Int)<3 by decide),yF (show(0:Int)<3 by decide) ↑4,mod_lit (show(0:Int)<5 by decide),show∀b S,Vq [.val (.bl b)] S=.ok #[if b then 1 else 0,5] S from λ_ _=>rfl];rw[D]
  obtain⟨z,C⟩:=uU (xs:=([0,1,1,1,2,4]:Za)) (i:=d / 15 % 6) (eN0 _ ↑4) (by have:=eL (d / 15) (show(0:Int)<6 by decide);show d / 15 % 6<6;exact this);have F:0<=z:=uV (P:=λz:Int=>0<=z) ↑4 C;have s: ∀S:Sto,yC (.new [.int 0,.int 1,.int 1,.int 1,.int 2,.int 4]) #[d / 15 % 6,5] S=.ok #[z,5] S:=λS=>Bn (by have:=vL MV.int [0,1,1,1,2,4] (d / 15 % 6);rw[C]at this;exact this);have a:↑0+1=(S++[o]).length:=by rw[lA,lS]
  obtain⟨y,A⟩: ∃y:Int,y=if z<v then z else v:=⟨_,rfl⟩
  have r:(S++[o]++[.lst (ts.map tbl)])[↑0+1]? =#[ts.map tbl,2]:=by rw[a];exact zM _ _
  have I:gW (TB c ↑0 #[d,0] #[v,0]) (S++[o]++[.lst (ts.map tbl)])=#[TB c ↑0 #[d,0] #[v,0],S++[o]++[.lst ((ts++[(v,y)]).map tbl)],0]:=by unfold gW;simp? [xT r,yF (show(0:Int)<15 by decide) ↑4,mod_lit (show(0:Int)<6 by decide),s,show∀i j S,By [#[i,5],#[j,5]] S=.ok _ S from λ_ _ _=>rfl, <-A,tup2,dH r (by rw[lM0];lia)];rw[a,kQ,ï];rfl
  refine(Ri c S o ns (ts++[(v,y)]) #[d,0] #[v,0] (by rw[lA,lS];lia) (λp k=>by
   rcases á.mp k with k|k
   .exact h p k
   .rw[mS.mp k];refine⟨q.1,q.2,?_⟩;show 0<=y/\y<=v;rw[A];split<;>lia)).l λm u B g=>g.e λe G E=>?_
  refine Y3 m u B ?_ (by rw[G,lA,lS,lC0];lia) E;rw[æ,zW (ρ0:=TB c ↑0 #[d,0] w) rfl (by unfold nR;rw[zD H];exact I) (yX _)];exact e
theorem Kk(c)(S): ∃ts:List (Int×Int),(1<=ts.length/\ts.length<=4)/\(∀p∈ts,1<=p.1/\p.1<=4/\0<=p.2/\p.2<=p.1)/\zQ 1 mI [#[c,5]] S=.ok #[ts.map tbl,6] S:=by
 refine(NP c (show 5<=10 by decide) S).a λa A s=>?_;obtain⟨v,o⟩: ∃v,a[4]? =some v:=⟨_,gE (show 4<a.length by lia)⟩
 have B:=eN0 v (show(4:Int)≠0 by decide);have C:=eL v (show(0:Int)<4 by decide);refine(Ri c S (.lst (a.map MV.int)) (a.take (1+v % 4).toNat) [] none none (by rw[lT,ç];lia) (λp m=>by simp at m)).l λts r u g=>g.e λe y m=>?_;rw[lT,ç]at y;refine Z1 ts (by lia) m ?_;have b:↑0+1=(S++[MO.lst (a.map MV.int)]).length:=by rw[lA,lS]
 refine nA (T:=[.lst (a.map MV.int)]++[.lst (ts.map tbl)]) rfl ?_ ((uT (kT λd h=>by
   refine(mM0.mp h).a λp _ D=>?_;subst D
   exact uT (kT λd h=>by
    rcases mC.mp h with rfl|h
    .exact mY _ _
    .rw[mS.mp h];exact mY _ _)))) (λl=>by simp);show yE (mH [#[c,0],none,none,none,none] S)=_;have w:nS [#[c,0],none,none,none,none] S=#[[#[c,0],#[↑0],none,none,none],S++[.lst (a.map MV.int)],0]:=by unfold nS;simp? [show∀S,zQ 2 yI [#[c,5],#[5,5]] S=zQ 2 yI [#[c,5],.val (zC 5)] S from λ_=>rfl,s]
 have z:nU [#[c,0],#[↑0],none,none,none] (S++[.lst (a.map MV.int)])=#[TB c ↑0 none none,S++[.lst (a.map MV.int)]++[.lst []],0]:=by unfold nU;simp? [aX];rw[<-b]
 have j:(S++[.lst (a.map MV.int)]++[.lst []])[↑0]? =#[a.map MV.int,2]:=by rw[â (by rw[lA,lS];lia)];exact zM _ _
 have n:yC #[↑0,1] #[4,5] _=.ok #[v,5] (S++[.lst (a.map MV.int)]++[.lst []]):=aH j (iC (k:=4) (by rw[ë,o];rfl));have q:nV (TB c ↑0 none none) (S++[.lst (a.map MV.int)]++[.lst []])=#[TB c ↑0 r u,S++[.lst (a.map MV.int)]++[.lst (ts.map tbl)],0]:=by unfold nV;simp? [n,mod_lit (show(0:Int)<4 by decide),vN j,lU _ (1+v % 4) #[],vM];rw[<-map_take];exact e
 have i:(S++[.lst (a.map MV.int)]++[.lst (ts.map tbl)])[↑0+1]? =#[ts.map tbl,2]:=by rw[b];exact zM _ _
 unfold mH;rw[zD w,zD z,zD q];unfold oK;simp? [HP i];rw[aA];rfl
abbrev VS(v:MV):Prop:=(∃i,v=.int i)\/ ∃x,v=.str x
def Gp(h:VS v):pd v=true/\KH v<40:=by
 rcases h with⟨i,rfl⟩|⟨x,rfl⟩
 .exact⟨HQ i,by rw[sI];decide⟩
 .exact⟨tL x,by rw[dI];decide⟩
def B7(h: ∀v∈vs,VS v)(n):DI n vs:=kT λd a=>AG (Gp (h d a)).1
noncomputable abbrev VV(c:Int)(l:Nat)(r m f k v n p t:T0):Rho:=[#[c,0],#[l],r,m,f,k,v,n,p,t]
noncomputable abbrev VW(c:Int)(a:Nat)(r m:T0)(b:Nat)(k v:T0):Rho:=[#[c,0],#[a],r,m,#[b],k,v,none,none,none]
theorem Yl(c)(lw)(m)(S)(F:↑47<=100)(h: ∀v∈vs,VS v)(r)(k v): ∃(q:R0)(r':Int)(G:T0),xV (VW c lw #[r,0] m ↑0 k v) (S++[.lst vs])=#[VW c lw #[r',0] m ↑0 k G,S++[.lst q],0]/\q≠[]/\q.length<=↑47+1/\ ∀v∈q,VS v:=by
 refine(Gh (r / 2) (S++[.lst vs])).d λx d E _=>?_;have w:gX (VW c lw #[r,0] m ↑0 k v) (S++[.lst vs])=#[VW c lw #[d,0] m ↑0 k #[x,4],S++[.lst vs],0]:=by unfold gX;exists 7,yF (b:=2) ↑4 ↑4,E,vK
 obtain⟨j,u,A,p⟩: ∃(j:Int)(u:MV),kM (VW c lw #[d,0] m S.length k #[x,4]) (S++[.lst vs])=#[VW c lw #[j,0] m ↑0 k (some u),S++[.lst vs],0]/\VS u:=by
  by_cases s:d % 2=1
  .have o: ∀S:Sto,JK #[10,5] #[30,5] S=.ok #[10 ^ 30,5] S:=λS=>Ef (by unfold Iw;decide+kernel) S;have D:Iv 0 (2 * 10 ^ 30 - 1):=by unfold Iv;decide+kernel
   refine Z0 (d / (2 * 10 ^ 30 - 1)) (.int (d / 2 % (2 * 10 ^ 30 - 1) - 10 ^ 30+1)) ?_ (.inl ⟨_,rfl⟩);have C:(CJ (dJ yW (dJ JI (dJ wX (dJ gP (vJ 2) ↑19) (dJ JI (dJ tV ↑19 ↑30) ↑6)) ↑30) ↑6) 6) (VW c lw #[d,0] m ↑0 k #[x,4]) (S++[.lst vs])=#[VW c lw #[d,0] m ↑0 k #[d / 2 % (2 * 10 ^ 30 - 1) - 10 ^ 30+1,0],S++[.lst vs],0]:=by exists 7,yF (b:=2) ↑4 ↑4,o,eE (a:=2) (show -(2 ^ 64)<(2:Int)/\(2:Int)<2 ^ 64 by decide),mod_lit (b:=2 * 10 ^ 30 - 1) ↑4
   have B:(CJ (dJ gP (vJ 2) (dJ JI (dJ tV ↑19 ↑30) ↑6)) 2) (VW c lw #[d,0] m ↑0 k #[d / 2 % (2 * 10 ^ 30 - 1) - 10 ^ 30+1,0]) (S++[.lst vs])=#[VW c lw #[d / (2 * 10 ^ 30 - 1),0] m ↑0 k #[d / 2 % (2 * 10 ^ 30 - 1) - 10 ^ 30+1,0],S++[.lst vs],0]:=by simp? [o,eE (a:=2) (show -(2 ^ 64)<(2:Int)/\(2:Int)<2 ^ 64 by decide),Xq D]
   unfold kM;simp? [mod_lit ↑34,s,Đ];rw[zD C];exact B
  .refine(Z0 d (.str x) ?_ (.inr ⟨x,rfl⟩));unfold kM;simp? [mod_lit ↑34,s,ġ,fT,iF]
 have e:=mL true (zM S (.lst vs)) (Gp p).1 λy i=>Gp (h y i);rw[iP rfl]at e;by_cases n:u∈vs
 .rw[dT0 n]at e;refine ZY vs j (some u) ?_ (λz=>by rw[z]at n;simp at n) (by lia) h;unfold xV;rw[zD w,zD A];unfold gY;exists 7,e,Bool.not_true,fT,iF
 .rw[dF0 n]at e;refine ZY (vs++[u]) j (some u) ?_ (by simp) (by rw[lA,lS];exact à _) (λy i=>?_)
  .unfold xV;rw[zD w,zD A];unfold gY;simp? [e,Bool.not_false,xT (zM S (.lst vs)),dH (zM S (.lst vs)) (show ↑47<1000000 by lia),kQ]
  .rcases á.mp i with i|i
   .exact h y i
   .rw[mS.mp i];exact p
theorem Rj(c)(lw)(m)(S): ∀ ds  vs  r  k v ,↑47+↑12<=100->(vs≠[]\/ds≠[])->(∀v∈vs,VS v)-> ∃(q:R0)(r':Int)(k' u:T0),jK (xF 5) xV [] ds (VW c lw #[r,0] m ↑0 k v) (S++[.lst vs])=#[VW c lw #[r',0] m ↑0 k' u,S++[.lst q],0]/\q≠[]/\q.length<=↑47+↑12/\ ∀v∈q,VS v
 |[],vs,r,k,v,_,hne,h=>⟨vs,r,k,v,rfl,hne.resolve_right λz=>z rfl,à _,h⟩
 |d::ds,vs,r,k,v,hl,_,h=>by rw[lC0]at hl;obtain⟨B,D,I,J,G,O,N⟩:=Yl c lw m S #[] h r _ v;obtain⟨q,r',k',u,e,a,i,b⟩:=Rj c lw m S ds B D _ I #[] (.inl G) N;refine⟨q,r',k',u,?_,a,by rw[lC0];lia,b⟩;rw[zW rfl J (yX _)];exact e
theorem Kl(c){ws:Ch}(hw:ws.length=2)(S): ∃vs:List MV,vs≠[]/\↑47<=100/\(∀v∈vs,VS v)/\zQ 2 mK [#[c,5],.new #[ws,8]] S=#[vs,S,2]:=by
 obtain⟨m,A⟩: ∃m:Sto,m=S++[.lst #[ws,8]]:=⟨_,rfl⟩
 have u:m[↑0]? =#[ws.map MV.str,2]:=by rw[A];exact zM _ _
 by_cases Y:c % 2=0
 .obtain⟨r,hr⟩: ∃r,r=c / 2:=⟨_,rfl⟩
  have h3:=eN0 r (show(3:Int)≠0 by decide);have h4:=eL r (show(0:Int)<3 by decide);refine(Rj c ↑0 #[2+r % 3,0] m ((List.range (2+r % 3).toNat).map λk=>.int (k:Nat)) [] (r / 3) none none (by rw[lM0,ñ,ç];omega) (.inr (by intro z;have:=congrArg List.length z;rw[lM0,ñ,ç]at this;omega)) (λv w=>by simp at w)).i λvs W X Z R=>R.k λe g1 g2 g3=>?_;rw[lM0,ñ,ç]at g2;have C:(m++[.lst vs])[m.length]? =#[vs,2]:=zM _ _;have B:(m++[.lst vs])[↑0]? =#[ws.map MV.str,2]:=by rw[â (gS.mp u).1];exact u
  have hc:yG (xF 0) kN gZ [none,#[m.length]] [(↑0,ws.map MV.str)] #[ws,8] (m++[.lst vs])=.ok ((ws.filter λx=>!decide (MV.str x∈vs)).map MV.str) (m++[.lst vs]):=
   aP (nE B) λx _=>(Z1 ([#[x,4],#[m.length]]) rfl (by unfold kN;simp? [mL true C (tL x) λy M=>Gp (g3 y M)]) rfl)
  obtain⟨t,ht⟩: ∃t:Int,t=2 - (if(vs.length:Int)<2 then(vs.length:Int)else 2):=⟨_,rfl⟩
  obtain⟨p,s⟩: ∃p,p=iE ((ws.filter λx=>!decide (MV.str x∈vs)).map MV.str) none (some t):=⟨_,rfl⟩
  have D: ∀y∈p,VS y:=λy M=>by rw[s]at M;refine(mM0.mp ((Ļ (þ M)))).a λx _ V=>?_;subst V;exact .inr ⟨x,rfl⟩
  have K:p.length<=2:=by rw[s];refine í (Ny _ _ _) ?_;rw[lM0];exact í (ĥ _ _) (by omega)
  have E: ∀v∈vs++p,VS v:=λv w=>(á.mp w).elim (g3 v) (D v);refine⟨vs++p,(by simp[g1]),(by rw[lA];omega),E,?_⟩;refine YX (T:=[.lst #[ws,8]]++[.lst vs]) rfl (show zP [#[c,5],.new #[ws,8]] S=([.int c,.loc ↑0],S++[.lst #[ws,8]])from rfl) ?_ (.inl rfl) (B7 E _);rw[<-A];show yE (gK ↑28 m)=_;have q1:(CJ (dJ gP (vJ 0) ↑19) 2) ↑28 m=#[VV c ↑0 #[r,0] none none none none none none none,m,0]:=by simp? [yF (b:=2) ↑4 ↑4];rw[hr]
  have q2:(CJ (dJ yW ↑19 (dJ wX (vJ 2) (kJ (.int 3)))) 3) (VV c ↑0 #[r,0] none none none none none none none) m=#[VV c ↑0 #[r,0] #[2+r % 3,0] none none none none none none,m,0]:=by exists 7,mod_lit (show(0:Int)<3 by decide)
  have q3:(CJ (dJ gP (vJ 2) (kJ (.int 3))) 2) (VV c ↑0 #[r,0] #[2+r % 3,0] none none none none none none) m=#[VV c ↑0 #[r / 3,0] #[2+r % 3,0] none none none none none none,m,0]:=by exists 7,yF (b:=3) ↑4 ↑4
  have q4:(CJ (bJ wJ jX) 4) (VV c ↑0 #[r / 3,0] #[2+r % 3,0] none none none none none none) m=#[VW c ↑0 #[r / 3,0] #[2+r % 3,0] m.length none none,m++[.lst []],0]:=by exists 7,rfl
  have q5:(FJ (bJ (yJ (vJ 3) wJ) kG) (xF 5) (xV)) (VW c ↑0 #[r / 3,0] #[2+r % 3,0] m.length none none) (m++[.lst []])=#[VW c ↑0 #[W,0] #[2+r % 3,0] m.length X Z,m++[.lst vs],0]:=by exists 7,LY (show -(2 ^ 62)<=(2+r % 3)/\(2+r % 3)<2 ^ 62 by omega),e
  have hb: ∀a b c d e f g h i j:Option MV,AM 1 [4] [a,b,c,d,e,f,g,h,i,j]=[none,e]:=λ_ _ _ _ _ _ _ _ _ _=>rfl;have N:(ws.map MV.str).length<1000000:=by rw[lM0];omega
  have q6:(AJ (dJ yW (vJ 4) (tJ dN (pJ (bJ (vJ 1) IQ) (xF 0) (kN) (gZ) 1 [4]) mJ (bJ (dJ JI ↑19 (bJ (yJ ↑19 (yJ (bJ (yJ (vJ 4) wJ) kY) wJ)) By)) IP)))) (VW c ↑0 #[W,0] #[2+r % 3,0] m.length X Z) (m++[.lst vs])=.ok (.ret (.new (vs++p))) (m++[.lst vs]):=by simp? [rR B,N,hb,hc,rQ C,show∀i j S,By [#[i,5],#[j,5]] S=.ok #[if j<i then j else i,5] S from λ_ _ _=>rfl, <-ht,Gi, <-s,ER (uW C) (show Ah (m++[.lst vs]) (.new p)=some p from rfl) (fits (show ↑47+p.length<=1000000 by omega))]
  have O:kC ↑28 m=.ok (.ret (.new (vs++p))) (m++[.lst vs]):=by unfold kC;simp? [mod_lit ↑34,Y,Đ];rw[zD q1,zD q2,zD q3,zD q4,zD q5];exact q6
  unfold gK;rw[pM O,A,aA];rfl
 .obtain⟨G,I,rfl⟩: ∃G I,ws=[G,I]:=by
   match ws,hw with
   |[a,b],_=>exact⟨a,b,rfl⟩
  obtain⟨n,hn⟩: ∃n:Int,n=c % (2 * 10 ^ 30 - 2) - 10 ^ 30+1:=⟨_,rfl⟩
  obtain⟨o,H⟩: ∃o:List MV,o=[.int n,.int (n+1),.str G,.str I]:=⟨_,rfl⟩
  obtain⟨q,P⟩: ∃q:Int,q=c / 5 % 4:=⟨_,rfl⟩
  have h3:=eN0 (c / 5) (show(4:Int)≠0 by decide);have h4:=eL (c / 5) (show(0:Int)<4 by decide);have h5:=eN0 c (show(3:Int)≠0 by decide);have h6:=eL c (show(0:Int)<3 by decide)
  have L: ∀v∈o,VS v:=λv w=>by
   rw[H]at w;simp only[mC,nM,or_false]at w;rcases w with rfl|rfl|rfl|rfl
   .exact .inl ⟨_,rfl⟩
   .exact .inl ⟨_,rfl⟩
   .exact .inr ⟨_,rfl⟩
   .exact .inr ⟨_,rfl⟩
  have F:o.length=4:=by rw[H];rfl
  obtain⟨p,s⟩: ∃p:List MV,p=(o.drop q.toNat++o.take q.toNat).take (2+c % 3).toNat:=⟨_,rfl⟩
  have K:p.length=(2+c % 3).toNat:=by rw[s,lT,lA,ÿ,lT,F];omega
  have D: ∀v∈p,VS v:=λv w=>by
   rw[s]at w;rcases á.mp (þ w)with w|w
   .exact L v (Ļ w)
   .exact L v (þ w)
  refine⟨p,(λz=>?_),(by omega),D,?_⟩
  .rw[z,ç]at K;omega
  refine YX (T:=[.lst ([G,I].map MV.str)]++[.lst o]) rfl (show zP [#[c,5],.new ([G,I].map MV.str)] S=([.int c,.loc ↑0],S++[.lst ([G,I].map MV.str)])from rfl) ?_ (.inl rfl) (B7 D _);rw[<-A];show yE (gK ↑28 m)=_;have hp: ∀S:Sto,JK #[10,5] #[30,5] S=.ok #[10 ^ 30,5] S:=λS=>Ef (by unfold Iw;decide+kernel) S;have O:kC ↑28 m=#[VV c ↑0 none none none none none none none none,m,0]:=by unfold kC;exists 7,mod_lit ↑34,Y,ġ,fT,iF
  have f2:nW ↑28 m=#[VV c ↑0 none none none none none #[n,0] none none,m,0]:=by unfold nW;simp? [hp,eE (a:=2) (show -(2 ^ 64)<(2:Int)/\(2:Int)<2 ^ 64 by decide),mod_lit (b:=2 * 10 ^ 30 - 2) ↑4];rw[hn]
  have i0:yC #[↑0,1] #[0,5] m=#[.str G,m,1]:=aH u (iC (k:=0) rfl);have i1:yC #[↑0,1] #[1,5] m=#[.str I,m,1]:=aH u (iC (k:=1) rfl);have f3:nY (VV c ↑0 none none none none none #[n,0] none none) m=#[VV c ↑0 none none none none none #[n,0] #[m.length] none,m++[.lst o],0]:=by unfold nY;simp? [i0,i1,show∀(a b c d:MV)(S:Sto),jX [.val a,.val b,.val c,.val d] S=#[[a,b,c,d],S,2] from λa b c d S=>uX (by simp)];rw[H]
  have f4:nZ (VV c ↑0 none none none none none #[n,0] #[m.length] none) (m++[.lst o])=#[VV c ↑0 none none none none none #[n,0] #[m.length] #[q,0],m++[.lst o],0]:=by unfold nZ;simp? [yF (b:=5) ↑4 ↑4,mod_lit (show(0:Int)<4 by decide)];rw[P]
  have U:(m++[.lst o])[m.length]? =#[o,2]:=zM _ _;have Q:(q.toNat:Int)=q:=by omega
  have J:=aV o q.toNat;rw[Q]at J;have f5:aB (VV c ↑0 none none none none none #[n,0] #[m.length] #[q,0]) (m++[.lst o])=.ok (.ret (.new p)) (m++[.lst o]):=by unfold aB;simp? [vN U,J,lU o q (by omega),ER (show Ah (m++[.lst o]) (.new (o.drop q.toNat))=some (o.drop q.toNat)from rfl) (show Ah (m++[.lst o]) (.new (o.take q.toNat))=some (o.take q.toNat)from rfl) (fits (show(o.drop q.toNat).length+(o.take q.toNat).length<=1000000 by rw[ÿ,lT,F];omega)),mod_lit (show(0:Int)<3 by decide),Gi,lU _ (2+c % 3) (by omega)];rw[s]
  unfold gK;rw[zD O,zD f2,zD f3,zD f4,f5,A,aA];rfl
def TmIn(xs:Ch)(d:MV):Prop:=(∃x∈xs,d=.tup [.str JQ,.str x])\/ ∃v,VS v/\d=.tup [.str IS,v]
def TmIn.ok(h:TmIn xs d):wY d:=by
 rcases h with⟨x,_,rfl⟩|⟨v,hv,rfl⟩
 .exact .inl ⟨x,rfl⟩
 .exact .inr (Z8 v hv rfl)
theorem Gq(h:S[l]? =#[ds,2])(a:ds≠[])(n): ∃d∈ds,yC #[l,1] #[n %  ↑12 ,5] S=#[d,S,1]:=by have i:=ĳ.mpr a;obtain⟨d,b⟩:=uU (xs:=ds) (eN0 _ #[]) (eL _ #[]);exact Z8 d (uV (λe c=>c) b) (aH h b)
theorem Gr(j:S[ln]? =#[xs.map MV.str,2])(k:xs≠[])(p:S[lv]? =#[vs,2])(o:vs≠[])(c: ∀v∈vs,VS v)(n): ∃d,TmIn xs d/\zQ 3 aT [#[n,5],#[ln,1],#[lv,1]] S=#[d,S,1]:=by
 have q:0<vs.length:=ĳ.mpr o;have r:0<xs.length:=ĳ.mpr k;by_cases m:n % 6=0
 .obtain⟨v,h,hi⟩:=Gq p o (n / 6);have a:=c v h;refine⟨.tup [.str IS,v],.inr ⟨v,a,rfl⟩,?_⟩;refine iS rfl ?_ (AG (NB (.inr ⟨v,a,rfl⟩)).1) (λl=>by simp);show yE (aS [#[n,0],#[ln],some _] S)=_;have e:gM [#[n,0],#[ln],#[lv]] S=.ok (.ret #[[.str IS,v],6]) S:=by unfold gM;exists 7,mod_lit (show _<6 by decide),m,Đ,yF (show(0:Int)<6 by decide) ↑4,rQ p,mod_lit (b:=(vs.length:Int)) (by omega),hi
  unfold aS;rw[pM e];rfl
 .obtain⟨d,h,hi⟩:=Gq j (by simpa using k) (n / 6);refine(mM0.mp h).a λx i g=>?_;subst g;rw[lM0]at hi;refine Z8 (.tup [.str JQ,.str x]) (.inl ⟨x,i,rfl⟩) ?_;refine iS rfl ?_ (AG (NB (.inl ⟨x,rfl⟩)).1) (λl=>by simp);show yE (aS [#[n,0],#[ln],#[lv]] S)=_;have e:gM [#[n,0],#[ln],#[lv]] S=#[[#[n,0],#[ln],#[lv]],S,0]:=by unfold gM;simp? [mod_lit (show(0:Int)<6 by decide),m,ġ,fT,iF]
  unfold aS;rw[zD e];unfold tK;simp? [yF (show(0:Int)<6 by decide) ↑4,rQ j,lM0,mod_lit (b:=(xs.length:Int)) (by omega),hi,tup2];rfl
noncomputable abbrev SG(la l:Nat)(t m d:T0):Rho:=[#[la],#[l],t,m,d]
structure Kx(xs ks:Ch):Prop where
 nd:ks.Nodup
 sub: ∀x∈ks,x∈xs
def Kx.len(h:Kx xs ks):ks.length<=xs.length:=EU h.nd h.sub
theorem Rk(b:↑8<=100)(S): ∀ tms ,(∀d∈tms,TmIn xs d)-> ∀ u  o ,Kx xs u-> ∃(q:Ch)(B:T0),jK (xF 4) kO [] tms (SG la ↑0 t m o) (S++[.dic (dT u)])=#[SG la ↑0 t m B,S++[.dic (dT q)],0]/\Kx xs q
 |[],_,u,o,h=>(Z0 u o rfl h)
 |d::tms,hT,u,o,h=>by
  have z: ∀d∈tms,TmIn xs d:=λe c=>hT e (mO _ c);rcases hT d mF0 with⟨x,hm,rfl⟩|⟨v,hv,rfl⟩
  .obtain⟨q,B,e,h'⟩:=Rk (la:=la) (t:=t) (m:=m) b S tms z _ _ ⟨Fk h.nd x,λy a=>by
    rcases (YZ u x y).mp a with a|rfl
    .exact h.sub y a
    .exact hm⟩
   refine Z0 q B ?_ h';have i:=h.len;rw[zW (ρ':=SG la ↑0 t m #[[.str JQ,.str x],3]) (S':=S++[.dic (dT (GA u x))]) rfl (by unfold kO kZ;simp? [HR,AN,Qb,vK,Fn (zM S (.dic (dT u))) #[],kQ]) (yX _)];exact e
  .obtain⟨q,B,e,h'⟩:=Rk (la:=la) (t:=t) (m:=m) b S tms z u _ h;refine Z0 q B ?_ h';rw[zW (ρ':=SG la ↑0 t m #[[.str IS,v],3]) (S':=S++[.dic (dT u)]) rfl (by unfold kO kZ;exists 7,HR,A7,fT,iF) (yX _)];exact e
theorem Rl(j:↑8<=100)(S)(c:S[la]? =#[all,2]): ∀(as:U0),(∀a∈as, ∀d∈a.2,TmIn xs d)-> ∀ u  t m o ,Kx xs u-> ∃(q:Ch)(t' B z:T0),jK (Io 2 (wH (xF 2) (wH (xF 3) vS))) fV [(la,all)] #[as,9] (SG la ↑0 t m o) (S++[.dic (dT u)])=#[SG la ↑0 t' B z,S++[.dic (dT q)],0]/\Kx xs q
 |[],_,u,t,m,o,h=>⟨u,t,m,o,rfl,h⟩
 |a::as,hA,u,t,m,o,h=>by obtain⟨v,G,I,D⟩:=Rk j S a.2 (hA a mF0) u o h;obtain⟨q,t',B,z,e,h'⟩:=Rl j S c as (λb k=>hA b (mO _ k)) v _ _ G D;refine⟨q,t',B,z,?_,h'⟩;have i:stay [_] (S++[.dic (dT v)]):=nE (by rw[â (gS.mp c).1];exact c);rw[æ,zW rfl (by exact I) i];exact e
theorem Gs: ∀d:List (List Nat),oA #[d,8]=some d
 |[]=>rfl
 |x::d=>by rw[æ];unfold oA;rw[Gs d];rfl
def Rm(h:S[l]? =#[dT ks,7])(a:ks.length<64):MR [#[l,1]] S=#[(DU ks).map MV.str,S,2]:=by unfold MR;dsimp only;rw[CD h (IZ ks)];dsimp only;rw[iP (by unfold dT;rw[lM0];exact a),VA,Gs]
theorem ZL{as:U0}(j:↑8<=4)(S)(b:S[la]? =#[as.map aM,2])(k: ∀a∈as, ∀d∈a.2,TmIn xs d): ∃ys:List (List Nat),ys.length<=4/\zQ 1 aD [#[la,1]] S=#[ys.map MV.str,S,2]:=by
 refine(Rl #[] S b as k [] none none none ⟨nodup_nil,λx j=>by simp at j⟩).i λi t m o g=>g.elim λe h=>?_;have q:=h.len;refine⟨DU i,by rw[(vA i).length_eq];lia,?_⟩;refine gF (T:=[.dic (dT i)]) rfl ?_ (GB _ _);show yE (aC [some _,none,none,none,none] S)=_;have n:bA [#[la],none,none,none,none] S=#[SG la ↑0 none none none,S++[.dic (dT [])],0]:=by unfold bA;exists 7,Ei
 have c:(S++[.dic (dT [])])[la]? =#[as.map aM,2]:=by rw[â (gS.mp b).1];exact b
 have p:bB (SG la ↑0 none none none) (S++[.dic (dT [])])=#[SG la ↑0 t m o,S++[.dic (dT i)],0]:=by unfold bB;exists 7,rR c,e
 unfold aC;rw[zD n,zD p];unfold fW;simp? [Rm (zM S (.dic (dT i))) #[]];rfl
theorem ZM{P:MV->Prop}(hs:stay gs S):
  ∀{ds},(∀d∈ds, ∃m b y,gf d ρb S=.ok m S/\cf m S=.ok b S/\ef m S=#[y,S,1]/\P y)-> ∃out,yG gf cf ef ρb gs ds S=.ok out S/\out.length<=↑12/\ ∀o∈out,P o
 |[],_=>(Z1 ([]) rfl (à _) (λo h=>by simp at h))
 |d::ds,st=>by
  refine(st d mF0).n λm b y q u v B=>?_;refine(ZM hs λd c=>st d (mO _ c)).c λout e j a=>?_
  cases b with
  |true=>
   refine⟨y::out,?_,by rw[lC0,lC0];lia,λo i=>(mC.mp i).elim (λz=>z▸B) (a o)⟩;unfold yG;rw[q,yO,aX,u,yO,aX,v,yO,aX];unfold iO;rw[aX,iP hs,e];rfl
  |false=>
   refine⟨out,?_,by rw[lC0];lia,a⟩;unfold yG;rw[q,yO,aX,u,yO,aX,iN0 xF0,iP hs,e]
def Gu(a:S[l]? =#[ds,2]):Jb #[l,1] [] S=#[.non,S.set l (.lst ds.reverse),1]:=by unfold Jb FN;dsimp only;rw[a]
abbrev QV(lc:Nat)(ts:Tk)(ln lv:Nat)(m o a k b w s h:T0):Rho:=[#[lc],#[ts.map tbl,3],#[ln],#[lv],m,o,a,k,b,w,s,h]
abbrev QA(lc:Nat)(ts:Tk)(ln lv:Nat)(m:T0)(lo:Nat)(k a w:T0):Rho:=QV lc ts ln lv m #[lo] #[lo+1] k a w none none
abbrev ZZ(B:Sto)(ord:Db)(as:U0)(T:Sto):Sto:=B++.lst (ord.map zC)::.lst #[as,9]::T
def zz_o(B)(ord)(as)(T):(ZZ B ord as T)[↑16]? =#[ord.map zC,2]:=by simp[ZZ]
def Ym(B)(ord)(as)(T):(ZZ B ord as T)[↑16+1]? =#[as.map aM,2]:=by simp[ZZ]
def Y5(B)(ord)(as as')(T):(ZZ B ord as T).set (↑16+1) (.lst #[as',9])=ZZ B ord as' T:=by simp[ZZ]
def VM{k:Nat}(h:B[k]? =some o)(ord)(as)(T):(ZZ B ord as T)[k]? =some o:=by show _[k]? =_;rw[â (gS.mp h).1];exact h
def Gv(B)(ord)(as)(T)(o):ZZ B ord as T++[o]=ZZ B ord as (T++[o]):=by simp[ZZ]
structure QB(B:Sto)(lc ln lv:Nat)(cs:Za)(xs:Ch)(vs:R0):Prop where
 c:B[lc]? =#[cs.map MV.int,2]
 c6:cs.length=6
 n:B[ln]? =#[xs.map MV.str,2]
 n1:xs≠[]
 n4:↑8<=4
 v:B[lv]? =#[vs,2]
 v1:vs≠[]
 vs: ∀v∈vs,VS v
section
theorem Yn(H:QB B lc ln lv cs xs vs)(O: ∀p∈ts,1<=p.1/\p.1<=4/\0<=p.2/\p.2<=p.1)(ho: ∀o∈ord,o<ts.length)(hl:↑10<=100)(T)(m nb w)(hk)(ab:k<4):
  ∃(a:Int×List MV)(Z:Sto)(G Y:T0),kP (QA lc ts ln lv m ↑16 (some (zC k)) nb w) (ZZ B ord as T)=#[QA lc ts ln lv m ↑16 (some (zC k)) G Y,ZZ B ord (as++[a]) Z,0]/\a.1=(ord[k])/\AOk ts a/\ ∀d∈a.2,TmIn xs d:=by
 obtain⟨c,X⟩: ∃c,cs[2+k]? =some c:=⟨_,gE (by have:=H.c6;lia)⟩
 refine(NP c (show 4<=10 by decide) (ZZ B ord as T)).a λy D W=>?_;have F:yC #[lc,1] #[2+(k:Int),5] (ZZ B ord as T)=.ok #[c,5] (ZZ B ord as T):=aH (VM H.c _ _ _) (by have:=iC (xs:=cs.map MV.int) (k:=2+k) (x:=.int c) (by rw[ë,X];rfl);rw[Int.natCast_add]at this;exact this);have f1:jC (QA lc ts ln lv m ↑16 (some (zC k)) nb w) (ZZ B ord as T)=#[QA lc ts ln lv m ↑16 (some (zC k)) #[(ZZ B ord as T).length] w,ZZ B ord as (T++[.lst (y.map MV.int)]),0]:=by unfold jC;simp? [F,show∀S,zQ 2 yI [#[c,5],#[4,5]] S=zQ 2 yI [#[c,5],.val (zC 4)] S from λ_=>rfl,W];rw[Gv]
 obtain⟨q,s⟩: ∃q,q=T++[.lst (y.map MV.int)]:=⟨_,rfl⟩
 obtain⟨o,r⟩: ∃o,o=ord[k]:=⟨_,rfl⟩
 have u:ord[k]? =some o:=by rw[r];exact gE hk
 have I:=ho o (î u);obtain⟨p,C⟩: ∃p,ts[o]? =some p:=⟨_,gE I⟩
 have aa:=O p (î C);have z: ∀U,yC #[↑16,1] (.val (zC k)) (ZZ B ord as U)=#[zC o,ZZ B ord as U,1]:=λU=>aH (zz_o _ _ _ _) (iC (by rw[ë,u];rfl));have N: ∀S:Sto,yC #[ts.map tbl,6] (.val (zC o)) S=#[tbl p,S,1]:=λS=>ix_tup (iC (by rw[ë,C];rfl));have f2:jD (QA lc ts ln lv m ↑16 (some (zC k)) #[(ZZ B ord as T).length] w) (ZZ B ord as q)=#[QA lc ts ln lv m ↑16 (some (zC k)) #[(ZZ B ord as T).length] #[p.1,0],ZZ B ord as q,0]:=by unfold jD;exists 7,z,N,show∀S:Sto,yC (.val (tbl p)) #[0,5] S=.ok #[p.1,5] S from λ_=>rfl
 have J:(ZZ B ord as q)[(ZZ B ord as T).length]? =#[y.map MV.int,2]:=by rw[s, <-Gv];exact zM _ _
 refine(FP (S:=ZZ B ord as q) (gf:=xF 0) (cf:=dQ) (ef:=jB) (ρb:=[none,#[ln],#[lv]]) (gs:=[]) (P:=TmIn xs) (yX _) (ds:=(y.map MV.int).take p.1.toNat) λd E=>by obtain⟨i,_,rfl⟩:=mM0.mp (þ E);obtain⟨t,ht,e⟩:=Gr (VM H.n ord as q) H.n1 (VM H.v ord as q) H.v1 H.vs i;refine⟨[#[i,0],#[ln],#[lv]],t,rfl,rfl,?_,ht⟩;unfold jB;exists 7,e).c λout K M A=>?_
 rw[lT,lM0,D]at M;have L:((y.map MV.int).take p.1.toNat).length<1000000:=by rw[lT,lM0];lia
 have Q: ∀a b c d e f g h i j k l:Option MV,AM 1 [2,3] [a,b,c,d,e,f,g,h,i,j,k,l]=[none,c,d]:=λ_ _ _ _ _ _ _ _ _ _ _ _=>rfl;have f3:jE (QA lc ts ln lv m ↑16 (some (zC k)) #[(ZZ B ord as T).length] #[p.1,0]) (ZZ B ord as q)=#[QA lc ts ln lv m ↑16 (some (zC k)) #[(ZZ B ord as T).length] #[p.1,0],ZZ B ord (as++[((o:Int),out)]) q,0]:=by unfold jE;simp? [xT (Ym B ord as q),z,vN J,lU _ p.1 (show 0<=p.1 by lia),vM,L,Q,K,show∀(ds:R0)(S:Sto),iQ [.new ds] S=.ok #[ds,6] S from λ_ _=>rfl,tup2,dH (Ym B ord as q) (by rw[lM0];lia)];rw[show as.map aM++[.tup [.int (o:Int),.tup out]]=(as++[((o:Int),out)]).map aM by rw[ï];rfl,Y5]
 refine Y4 ((o:Int),out) q (#[(ZZ B ord as T).length]) (#[p.1,0]) ⟨?_,(by rw[r]),⟨⟨p,iC C,by lia⟩,λd E=>(A d E).ok,?_,p,iC C,?_⟩,A⟩
 .unfold kP;rw[zD f1, <-s,zD f2];exact f3
 .show out.length<=4
  lia
 .show(out.length:Int)=p.1
  lia
theorem Ro(H:QB B lc ln lv cs xs vs)(h: ∀p∈ts,1<=p.1/\p.1<=4/\0<=p.2/\p.2<=p.1)(ho: ∀o∈ord,o<ts.length)(m): ∀ n k  as  T  q z w ,k+n<=ord.length->k+n<=4->↑10=k->(as.map λa=>a.1.toNat)=ord.take k->(∀a∈as,0<=a.1/\AOk ts a/\ ∀d∈a.2,TmIn xs d)->
  ∃(u:U0)(J:Sto)(G v I:T0),jK (xF 7) kP [] ((List.range' k n).map zC) (QA lc ts ln lv m ↑16 q z w) (ZZ B ord as T)=#[QA lc ts ln lv m ↑16 G v I,ZZ B ord u J,0]/\u.length=k+n/\(u.map λa=>a.1.toNat)=ord.take (k+n)/\ ∀a∈u,0<=a.1/\AOk ts a/\ ∀d∈a.2,TmIn xs d
 |0,k,as,T,q,z,w,_,_,h1,h2,h3=>(Y2 as T q z w ⟨rfl,h1,h2,h3⟩)
 |n+1,k,as,T,q,z,w,hk,h4,h1,h2,h3=>by
  have D:k<ord.length:=by lia
  refine(Yn H h ho (as:=as) #[] T m z w D #[]).i λa A i s g=>g.k λC j y F=>?_
  obtain⟨u,J,G,v,I,e,K,r,E⟩:=Ro H h ho m n (k+1) (as++[a]) A _ i s #[] #[] (by rw[lA,lS,h1]) (by
   rw[ï,h2,List.take_add_one,gE D,List.map_singleton,j];rfl) (λb c=>by
   rcases á.mp c with c|c
   .exact h3 b c
   .rw[mS.mp c];exact⟨by rw[j];lia,y,F⟩)
  refine Y2 u J G v I ⟨?_,(by lia),(by rw[r];congr 1;lia),E⟩;rw[range'_succ,æ,zW rfl C (yX _)];exact e
end
theorem ZN: ∀{o},(∀y∈o, ∃x:List Nat,y=.str x)-> ∃ys:List (List Nat),o=ys.map MV.str
 |[],_=>⟨[],rfl⟩
 |a::o,h=>by obtain⟨x,rfl⟩:=h a mF0;obtain⟨ys,rfl⟩:=ZN λy b=>h y (mO _ b);exact⟨x::ys,rfl⟩
def Rp{I:Za}(hc:S[lc]? =#[I.map MV.int,2])(ak:I.length=6)(ai:S[ln]? =#[xs.map MV.str,2])(aq:xs≠[])(X:↑8<=4)(hv:S[lv]? =#[vs,2])(az:vs≠[])(aw: ∀v∈vs,VS v)(a':1<=ts.length)(a5:ts.length<=4)(a0: ∀p∈ts,1<=p.1/\p.1<=4/\0<=p.2/\p.2<=p.1):
  ∃(hs:Ch)(as:U0),QOk ts as/\hs.length<=2/\(∀a∈as, ∀d∈a.2,TmIn xs d)/\zQ 4 gG [#[lc,1],#[ts.map tbl,6],#[ln,1],#[lv,1]] S=#[qM hs as,S,1]:=by
 obtain⟨B,hB⟩: ∃B:Sto,B=S:=⟨_,rfl⟩
 have L: ∀{k:Nat}{o:MO},S[k]? =some o->B[k]? =some o:=λh=>by rw[hB];exact h
 have H:QB B lc ln lv I xs vs:=⟨L hc,ak,L ai,aq,X,L hv,az,aw⟩
 obtain⟨u,h0⟩: ∃c,I[0]? =some c:=⟨_,gE (show 0<I.length by omega)⟩
 obtain⟨c1,h1⟩: ∃c,I[1]? =some c:=⟨_,gE (show 1<I.length by omega)⟩
 obtain⟨n,hn⟩: ∃n,n=ts.length:=⟨_,rfl⟩
 have i0: ∀T:Sto,yC #[lc,1] #[0,5] (B++T)=.ok #[u,5] (B++T):=λT=>aH (by rw[â (gS.mp H.c).1];exact H.c) (iC (k:=0) (by rw[ë,h0];rfl));have K:=i0 [];rw[aN]at K;have a6:=eN0 u (show(n:Int)≠0 by omega);have a7:=eL u (show(0:Int)<n by omega);obtain⟨m,hm⟩: ∃m:Nat,(m:Int)=1+u % (n:Int):=⟨(1+u % (n:Int)).toNat,by omega⟩
 have a8:1<=m/\m<=n:=by omega
 have f1:bC (QV lc ts ln lv none none none none none none none none) B=#[QV lc ts ln lv (some (zC m)) none none none none none none none,B,0]:=by unfold bC;simp? [K,iA,lM0, <-hn,mod_lit (b:=(n:Int)) (by omega), <-hm]
 obtain⟨r,C⟩: ∃o:List Nat,o=(List.range n).map λk:Nat=>((u / 4+(k:Int)) % (n:Int)).toNat:=⟨_,rfl⟩
 have F:r.Nodup:=by rw[C];exact (by
   unfold List.Nodup;rw[pairwise_map];refine List.Pairwise.imp_of_mem (λ{i j} hi hj ay e=>ay ?_) (List.nodup_range);have hi:=ø.mp hi;have hj:=ø.mp hj;have:n=1\/n=2\/n=3\/n=4:=by lia
   rcases this with rfl|rfl|rfl|rfl<;>lia)
 have D: ∀o∈r,o<n:=λo N=>by rw[C]at N;obtain⟨k,_,rfl⟩:=mM0.mp N;have:=eN0 (u / 4+(k:Int)) (show(n:Int)≠0 by omega);have:=eL (u / 4+(k:Int)) (show(0:Int)<n by omega);omega
 have O:r.length=n:=by rw[C,lM0,ñ]
 have J:yG (xF 0) dP jA [none,#[lc],#[ts.map tbl,3]] [] ((List.range n).map zC) B=.ok (r.map zC) B:=by
  rw[C,ď];refine gO (yX _) λk _=>⟨[some (zC k),#[lc],#[ts.map tbl,3]],rfl,rfl,?_⟩
  have:=eN0 (u / 4+(k:Int)) (show(n:Int)≠0 by omega);unfold jA;simp? [K,yF (b:=4) ↑4 ↑4,iA,lM0, <-hn,mod_lit (b:=(n:Int)) (by omega)];show R.ok (Er.val (.int ((u / 4+(k:Int)) % (n:Int)))) B=R.ok (Er.val (.int (((u / 4+(k:Int)) % (n:Int)).toNat:Int))) B;rw[Int.toNat_of_nonneg this]
 have hb: ∀a b c d e f g h i j k l:Option MV,AM 1 [0,1] [a,b,c,d,e,f,g,h,i,j,k,l]=[none,a,b]:=λ_ _ _ _ _ _ _ _ _ _ _ _=>rfl;have aj:(List.range n).length<1000000:=by rw[ñ];omega
 have f2:bD (QV lc ts ln lv (some (zC m)) none none none none none none none) B=#[QV lc ts ln lv (some (zC m)) #[↑16] none none none none none none,B++[.lst (r.map zC)],0]:=by unfold bD;simp? [iA,lM0, <-hn,ND (n:=n) (by omega),aj,hb,J]
 obtain⟨ord,f3,au,ao,ba⟩: ∃ord:List Nat,bE (QV lc ts ln lv (some (zC m)) #[B.length] none none none none none none) (B++[.lst (r.map zC)])=#[QV lc ts ln lv (some (zC m)) #[↑16] none none none none none none,B++[.lst (ord.map zC)],0]/\ord.Nodup/\(∀o∈ord,o<n)/\ord.length=n:=by
  unfold bE;by_cases W:u / 16 % 2=1
  .refine⟨r.reverse,?_,List.pairwise_reverse.mpr (F.imp λh e=>h e.symm),λo N=>D o (mem_reverse.mp N),by rw[ě,O]⟩;simp? [i0,yF (b:=16) ↑4 ↑4,mod_lit ↑34,W,Đ,xT (zM B (.lst (r.map zC))),Gu (zM B (.lst (r.map zC))),kQ];rw[List.map_reverse]
  .refine⟨r,?_,F,D,O⟩;simp? [i0,yF (b:=16) ↑4 ↑4,mod_lit ↑34,W,ġ,fT,iF]
 have f4:bF (QV lc ts ln lv (some (zC m)) #[↑16] none none none none none none) (B++[.lst (ord.map zC)])=#[QA lc ts ln lv (some (zC m)) ↑16 none none none,ZZ B ord [] [],0]:=by unfold bF;simp? [aX];rw[lA,lS,aA];rfl
 obtain⟨as,T,q,E,w,e5,g1,g2,g3⟩:=Ro (ts:=ts) (ord:=ord) H a0 (λo N=>by rw[<-hn];exact ao o N) (some (zC m)) m 0 [] [] none none none (by omega) (by omega) rfl rfl (λa z=>by simp at z);rw[Į]at g1 g2;have f5:bG (QA lc ts ln lv (some (zC m)) ↑16 none none none) (ZZ B ord [] [])=#[QA lc ts ln lv (some (zC m)) ↑16 q E w,ZZ B ord as T,0]:=by unfold bG;simp? [ND (n:=m) (by omega)];rw[range_eq_range'];exact e5
 have hQ:QOk ts as:=⟨λa z=>(g3 a z).2.1,by omega,λa z=>(g3 a z).1,by rw[g2];exact au.sublist (List.take_sublist _ _),by omega⟩
 obtain⟨A,a9,e6⟩:=ZL X (ZZ B ord as T) (Ym B ord as T) λa z=>(g3 a z).2.2;obtain⟨Z,hZ⟩: ∃Z:Sto,Z=ZZ B ord as T:=⟨_,rfl⟩
 rw[<-hZ]at e6 f5;have a4: ∀{k o},B[k]? =some o->Z[k]? =some o:=λh=>by rw[hZ];exact VM h _ _ _
 have f6:bH (QA lc ts ln lv (some (zC m)) ↑16 q E w) Z=#[QV lc ts ln lv (some (zC m)) #[↑16] #[↑16+1] q E w #[Z.length] none,Z++[.lst #[A,8]],0]:=by unfold bH;exists 7,e6
 have G: ∀{k o}(U:Sto),Z[k]? =some o->(Z++U)[k]? =some o:=λU h=>by rw[â (gS.mp h).1];exact h
 have i1: ∀U:Sto,yC #[lc,1] #[1,5] (Z++U)=.ok #[c1,5] (Z++U):=λU=>aH (G U (a4 H.c)) (iC (k:=1) (by rw[ë,h1];rfl));have ar: ∀(a b c d:MV)(S:Sto),jX [.val a,.val b,.val c,.val d] S=#[[a,b,c,d],S,2]:=λa b c d S=>uX (by simp)
 obtain⟨out,J,af,aa⟩:=ZM (S:=Z++[.lst #[A,8]]) (gf:=xF 0) (cf:=jF) (ef:=jG) (ρb:=[none,#[lc],#[Z.length]]) (gs:=[]) (P:=λy=> ∃x:List Nat,y=.str x) (yX _) (ds:=(List.range A.length).map zC) λd M=>by
  obtain⟨k,hk,rfl⟩:=mM0.mp M;have hk:=ø.mp hk;obtain⟨p,hp⟩:=uU (xs:=([1,3,9,27]:Za)) (i:=(k:Int)) (by omega) (by show(k:Int)<4;omega);have ag:0<p/\p<1073741824:=uV (P:=λp:Int=>0<p/\p<1073741824) ↑4 hp;have a3: ∀S:Sto,yC (.new [.int 1,.int 3,.int 9,.int 27]) #[(k:Int),5] S=.ok #[p,5] S:=λS=>Bn (by have:=vL MV.int [1,3,9,27] (k:Int);rw[hp]at this;exact this);refine⟨[some (zC k),#[lc],#[Z.length]],decide (c1 / p % 3=1),.str A[k],rfl,?_,?_,⟨_,rfl⟩⟩
  .unfold jF;exists 7,i1,ar,a3,yF ag.1 ag.2,mod_lit (show(0:Int)<3 by decide)
  .unfold jG;simp? [aH (zM Z (.lst #[A,8])) (iC (k:=k) (x:=.str A[k]) (by rw[ë,gE hk];rfl))]
 rw[lM0,ñ]at af;have av: ∀a b c d e f g h i j k l:Option MV,AM 1 [0,10] [a,b,c,d,e,f,g,h,i,j,k,l]=[none,a,k]:=λ_ _ _ _ _ _ _ _ _ _ _ _=>rfl;have ah:(List.range A.length).length<1000000:=by rw[ñ];omega
 obtain⟨Y,hY⟩: ∃Y:Sto,Y=Z++[.lst #[A,8]]:=⟨_,rfl⟩
 have f7:bI (QV lc ts ln lv (some (zC m)) #[↑16] #[↑16+1] q E w #[Z.length] none) Y=#[QV lc ts ln lv (some (zC m)) #[↑16] #[↑16+1] q E w #[Z.length] #[Y.length],Y++[.lst out],0]:=by unfold bI;rw[hY];simp? [rQ (zM Z (.lst #[A,8])),lM0,ND (n:=A.length) (by omega),ah,av,J]
 have Q: ∀U:Sto,yC #[lc,1] #[1,5] (Y++U)=.ok #[c1,5] (Y++U):=λU=>by rw[hY,aA];exact i1 _
 obtain⟨s,f8,ab⟩: ∃s:List MV,bK (QV lc ts ln lv (some (zC m)) #[B.length] #[B.length+1] q E w #[Z.length] #[Y.length]) (Y++[.lst out])=#[QV lc ts ln lv (some (zC m)) #[↑16] #[↑16+1] q E w #[Z.length] #[Y.length],Y++[.lst s],0]/\ ∀y∈s, ∃x:List Nat,y=.str x:=by
  unfold bK;by_cases W:c1 / 81 % 2=1
  .refine⟨out.reverse,?_,λy hy=>aa y (mem_reverse.mp hy)⟩;simp? [Q,yF (b:=81) ↑4 ↑4,mod_lit ↑34,W,Đ,xT (zM Y (.lst out)),Gu (zM Y (.lst out)),kQ]
  .refine⟨out,?_,aa⟩;exists 7,Q,yF (b:=81) ↑4 ↑4,mod_lit ↑34,W,ġ,fT,iF
 obtain⟨hs,ae⟩:=ZN (o:=s.take 2) λy hy=>ab y (þ hy);refine⟨hs,as,hQ,by have:=congrArg List.length ae;rw[lT,lM0]at this;omega,λa z=>(g3 a z).2.2,?_⟩;have ax:(Y++[.lst s])[↑16+1]? =#[as.map aM,2]:=by rw[hY,aA];exact G _ (by rw[hZ];exact Ym _ _ _ _)
 have f9:bL (QV lc ts ln lv (some (zC m)) #[↑16] #[↑16+1] q E w #[Z.length] #[Y.length]) (Y++[.lst s])=.ok (.ret (.val (qM hs as))) (Y++[.lst s]):=by unfold bL;simp? [vN (zM Y (.lst s)),lU _ 2 (show(0:Int)<=2 by decide),show(2:Int).toNat=2 from rfl,show∀(ds:R0)(S:Sto),iQ [.new ds] S=.ok #[ds,6] S from λ_ _=>rfl,HP ax,tup2];rw[ae]
 obtain⟨V,hV⟩: ∃V:Sto,Y++[.lst s]=S++V:=⟨_,by rw[hY,hZ,hB];simp only[ZZ,aA];rfl⟩
 have hF:gG [.loc lc,.tup (ts.map tbl),.loc ln,.loc lv] B=#[qM hs as,S++V,1]:=by show yE (aF (QV lc ts ln lv none none none none none none none none) B)=_;unfold aF;rw[zD f1,zD f2,zD f3,zD f4,zD f5,zD f6, <-hY,zD f7,zD f8,f9,hV];rfl
 have hE:zP [#[lc,1],#[ts.map tbl,6],#[ln,1],#[lv,1]] S=([.loc lc,.tup (ts.map tbl),.loc ln,.loc lv],B):=by rw[hB];rfl
 refine nA (T:=V) rfl (by rw[hE];exact hF) (uT (kT λd M=>?_)) (λl=>by simp);rcases mC.mp M with rfl|M
 .exact uT (GB _ _)
 .rw[mS.mp M];exact uT ((kT λd M=>by
   obtain⟨a,z,rfl⟩:=mM0.mp M
   exact uT (kT λe he=>by
    rcases mC.mp he with rfl|he
    .exact mY _ _
    .rw[mS.mp he];exact uT (kT λt ht=>AG (NB (((hQ.at') a z).tm t ht)).1))))
section
variable{ts:Tk}
theorem Km(d:↑10<=4)(c: ∀a∈as,0<=a.1)(b:KM [] as 0=some j)(S):xW 2 pX [#[ts.map tbl,6],.val (qM hs as)] S=.exc "Double" (NQ j) S:=by
 refine VI (T:=[]) rfl ?_;rw[aN];show yE (FU [some _,some _,none,none] S)=_;have e:uA [#[ts.map tbl,3],some (qM hs as),none,none] S=.exc "Double" (NQ j) S:=by unfold uA;simp? [Qx d c b];rfl
 unfold FU;rw[KL e];rfl
theorem Rq(d:↑10<=4)(c: ∀a∈as,0<=a.1)(b:KM [] as 0=some j)(S):xW 2 sV [#[ts.map tbl,6],.val (qM hs as)] S=.exc "Double" (NQ j) S:=by
 refine VI (T:=[]) rfl ?_;rw[aN];show yE (MX [some _,some _,none,none,none] S)=_;have e:BP [#[ts.map tbl,3],some (qM hs as),none,none,none] S=.exc "Double" (NQ j) S:=by unfold BP;simp? [Km d c b];rfl
 unfold MX;rw[KL e];rfl
end
def Yo(p)(ds)(S):BC false p (.new ds) S=BB false p (.new ds) S:=by unfold BC;split<;>first |rfl|(rename_i h;cases h)
def Gw{ys:Za}:BC false #[d,5] (.new (ys.map MV.int)) S=#[.bl (decide (d∈ys)),S,1]:=by
 have k:itemsOf S (.new _)=some (ys.map MV.int):=rfl;have j:=FY (S:=S) (HQ d) (ys:=ys.map MV.int) λy a=>by refine(mM0.mp a).a λi _ g=>?_;subst g;exact⟨HQ i,by rw[sI];decide⟩
 rw[Yo];unfold BB;rw[k];dsimp only;rw[j];show R.ok (Er.val (.bl (((ys.map MV.int).map λy=>decide _).any id))) S=_;congr 3;rw[Bool.eq_iff_iff,decide_eq_true_iff,ı];constructor
 .rintro⟨b,c,e⟩;refine(mM0.mp c).a λy a m=>?_;subst m;refine(mM0.mp a).a λi hi n=>?_;subst n;have:=Ą e;injection this with this
  rw[<-this];exact hi
 .intro h;exact⟨true,mM0.mpr ⟨.int d,mM0.mpr ⟨d,h,rfl⟩,dT0 rfl⟩,rfl⟩
def plR(as:U0)(o:T0)(S:Sto):Option Nat->R Fl
 |none=>#[[#[as.map aM,3],o],S,0]
 |some j=>.ok (.ret (.val (zC j))) S
theorem Rr(w: ∀a∈as,0<=a.1)(C:↑10<=4)(S): ∀ m k  o ,k+m=↑10-> ∃B,jK (xF 1) bZ [] ((List.range' k m).map zC) [#[as.map aM,3],o] S=plR as B S (KM ((as.take k).map λa=>a.1.toNat) (as.drop k) k)
 |0,k,o,hk=>⟨o,by rw[List.drop_of_length_le #[]];rfl⟩
 |m+1,k,o,hk=>by
  have q:k<as.length:=by lia
  obtain⟨c,s⟩: ∃c,as[k]? =some c:=⟨_,gE q⟩
  have v:=î s;have A:as.drop k=c::as.drop (k+1):=by rw[List.drop_eq_getElem_cons q];rw[gE q]at s;rw[å s]
  have r:yC _ _ S=#[aM c,S,1]:=ix_tup (iC (by rw[ë,s];rfl));have h:dN #[as.map aM,6] none (some (k:Int)) S=.ok #[(as.take k).map aM,6] S:=by rw[map_take, <-Ĩ k, <-lU _ (k:Int) #[],Ĩ];rfl
  have p:Iq #[_,6] S=.ok ⟨(as.take k).map aM,[]⟩ S:=rfl;have n:((as.take k).map aM).length<1000000:=by rw[lM0,lT];lia
  have j:yG (xF 0) lK lL [none] [] ((as.take k).map aM) S=.ok (((as.take k).map λa=>a.1).map MV.int) S:=by rw[ď];exact gO (yX _) λa _=>(Z1 ([some (aM a)]) rfl rfl rfl)
  have y: ∀a b:Option MV,AM 1 [] [a,b]=[none]:=λ_ _=>rfl
  have i:(c.1∈(as.take k).map λa=>a.1)↔c.1.toNat∈(as.take k).map λa=>a.1.toNat:=by
   rw[mM0,mM0];constructor
   .rintro⟨a,u,e⟩;exact⟨a,u,by rw[e]⟩
   .rintro⟨a,u,e⟩;have D:=w a (þ u);have E:=w c v;exact Z8 a u (by lia)
  rw[A,range'_succ,æ];unfold KM;by_cases d:c.1.toNat∈(as.take k).map λa=>a.1.toNat
  .rw[iP d];refine⟨none,Eg (S0:=S) rfl ?_⟩;unfold bZ dG;exists 7,r,show∀S:Sto,yC (.val (aM c)) #[0,5] S=.ok _ S from λ_=>rfl,h,p,n,y,j,Gw,dT0 (i.mpr d)
  .rw[iN0 d];obtain⟨B,e⟩:=Rr w C S m (k+1) _ #[];refine⟨B,?_⟩;rw[zW (S0:=S) rfl (by unfold bZ dG;simp? [r,show∀S:Sto,yC (.val (aM c)) #[0,5] S=.ok _ S from λ_=>rfl,h,p,n,y,j,Gw,dF0 (λz=>d (i.mp z)),fT,iF];rfl) (yX _),e];rw[List.take_add_one,s,ï];rfl
def plM:Option Nat->MV
 |none=>.non
 |some j=>zC j
theorem Rt(d: ∀a∈as,0<=a.1)(i:↑10<=4)(S):zQ 1 fZ [#[as.map aM,6]] S=#[plM (KM [] as 0),S,1]:=by
 obtain⟨h,e⟩:=Rr d i S ↑10 0 none #[];have b:fY [#[as.map aM,3],none] S=plR as h S (KM [] as 0):=by unfold fY;simp? [iA,lM0,ND (n:=↑10) #[]];rw[range_eq_range'];exact e
 have k:yE (qB [#[as.map aM,3],none] S)=#[plM (KM [] as 0),S++[],1]:=by
  rw[aN];unfold qB
  cases c:KM [] as 0 with
  |none=>
   rw[c]at b;rw[zD b];rfl
  |some j=>
   rw[c]at b;rw[pM b];rfl
 refine nA rfl k ?_ (λl=>?_)
 .cases KM [] as 0 with
  |none=>exact LX _
  |some j=>exact mY _ _
 .cases KM [] as 0<;>intro z<;>cases z
def aQ{B:Sto}{m:Nat}(h:B[m]? =some o):(B++L)[m]? =some o:=by rw[â (gS.mp h).1];exact h
def Ru(S)(a b:MO):(S++[a,b])[↑0+1]? =some b:=by simp
def Yp(a b c d)(S):jX [.val a,.val b,.val c,.val d] S=#[[a,b,c,d],S,2]:=uX (by simp)
theorem RY(a:rs.length=n)(b:F (zP rs S).1 (zP rs S).2=#[d,S2,1])(hd: ∀l,d≠.loc l)(h: ¬lo ↑0 d):zQ n F rs S=#[d,S2,1]:=by
 unfold zQ;rw[iP a,b];show dY S _ S2=_;unfold dY;split
 .split
  .rename_i l e;cases e;exact absurd rfl (hd l)
  .rename_i e;cases e;rw[iN0 h]
  .rename_i e;cases e
 .rfl
def ZO:("Double":Str)∈XNS:=by decide
section
theorem zDO(h:S[l]? =some (.ins "Double" (NQ j))):Jl XNS "place" #[l,1] S=#[zC j,S,1]:=by unfold Jl;dsimp only;rw[h];dsimp only;rfl
end
theorem Gx(ns:Za)(k)(q:0<=k)(S): ∃c,zQ 2 zX [.val (.scr ↑22),#[k,5]] S=.ok #[c,5] S:=by
 have b:kY [.val (.scr ↑22)] S=.ok #[ns.length,5] S:=by show R.ok _ S=_;rw[lM0]
 have j:cJ [some (.scr ↑22),#[k,0]] S=if decide (k<ns.length)=true then(yC (.val (.scr ↑22)) #[k,5] S).bind λr p=>.ok (.ret r) p else #[[some (.scr ↑22),#[k,0]],S,0]:=by unfold cJ;exists 7,b,lt_int
 have i: ∀c,zX [.scr ↑22,.int k] S=.ok _ S-> ∃c,zQ 2 zX [.val _,.val _] S=#[_,S,1]:=λc h=>⟨c,iS rfl h (mY _ _) (λl=>by simp)⟩
 have hs:yA [Ň,ŉ] [.scr ↑22,.int k]=[some _,some _]:=rfl;by_cases a:k<ns.length
 .obtain⟨d,n⟩:=uU (xs:=ns.map MV.int) q (by rw[lM0];exact a);obtain⟨c,rfl⟩: ∃c,d=.int c:=uV (P:=λd=> ∃c,d=.int c) (λe o=>by refine(mM0.mp o).a λc _ g=>?_;subst g;exact⟨c,rfl⟩) n;have m:yC (.val (.scr (ns.map MV.int))) #[k,5] S=.ok #[c,5] S:=by show(match qF _ k with |some d=>R.ok (Er.val d) S|none=>.no)=_;rw[n]
  refine i c ?_;rw[dT0 a,m,aX]at j;unfold zX fD;rw[hs,pM j];rfl
 .refine i 0 ?_;rw[dF0 a,iN0 xF0]at j;unfold zX fD;rw[hs,zD j];rfl
theorem ZP: ∀{o},(∀y∈o, ∃i:Int,y=.int i)-> ∃ys:List Int,o=ys.map MV.int
 |[],_=>⟨[],rfl⟩
 |a::o,h=>by obtain⟨x,rfl⟩:=h a mF0;obtain⟨ys,rfl⟩:=ZP λy b=>h y (mO _ b);exact⟨x::ys,rfl⟩
theorem Rv{K:Nat->List (List Nat)}(s: ∀j,j<n-> ∀y,y∈K j->y∈F j)(o: ∀a b,a<n->b<n->a≠b->Rc K F n a b-> ¬Rc K F n b a): ∀ L ,L≠[]->(∀a,a∈L->a<n)-> ∃b,b∈L/\ ∀a,a∈L->a≠b-> ¬Rc K F n a b
 |[],h,_=>absurd rfl h
 |[a],_,_=>⟨a,mF0,λb q d=>absurd (mS.mp q) d⟩
 |a::c::L,_,hL=>by
  refine(Rv s o _ (by simp) λx v=>hL x (mO _ v)).a λt z u=>?_;have r:=hL a mF0;by_cases k:a≠t/\Rc K F n a t
  .refine⟨a,mF0,λb q d m=>?_⟩;have p:=hL b q;rcases mC.mp q with rfl|hb'
   .exact d rfl
   .rcases X2 s p m (λe=>d e.symm) k.2 with h|h
    .by_cases i:b=t
     .subst i;exact o a b r p k.1 k.2 m
     .exact u b hb' i h
    .exact o b a p r d m h
  .refine⟨t,mO _ z,λb q d i=>?_⟩;rcases mC.mp q with rfl|hb'
   .exact k ⟨d,i⟩
   .exact u b hb' d i
def zN(h:F ρ S=#[ρ',S',0])(k:G ρ' S'=r):zL F G ρ S=r:=(zD h).trans k
theorem lN(h:X=.ok (.ret r) S):yE X=.ok r S:=by rw[h];rfl
section
theorem Rw(e:gf d ρb S=.ok ρ1 S)(b:cf ρ1 S=.ok true S)(h:ef ρ1 S=#[y,S1,1])(a:stay gs S1)(c:yG gf cf ef ρb gs ds S1=.ok out S2):yG gf cf ef ρb gs (d::ds) S=.ok (y::out) S2:=by unfold yG;rw[e,yO,aX,b,yO,aX,h,yO,aX];unfold iO;rw[aX,iP a,c];rfl
def Gy(b:gf d ρb S=.ok ρ1 S)(c:cf ρ1 S=.ok false S)(a:stay gs S)(e:yG gf cf ef ρb gs ds S=.ok out S2):yG gf cf ef ρb gs (d::ds) S=.ok out S2:=by unfold yG;rw[b,yO,aX,c,yO,aX,iN0 xF0,iP a,e]
end
def Y7(a:S[l]? =#[ds,2])(c:S[m]? =#[es,2])(b:↑12+es.length<=1000000):UK #[l,1] [#[m,1]] S=#[.non,S.set l (.lst (ds++es)),1]:=by unfold UK;dsimp only;rw[uW c];unfold FN;dsimp only;rw[a];dsimp only;rw[iP (fits b)]
noncomputable abbrev IT(ts q p l o u:T0):Rho:=[ts,q,p,l,o,u]
noncomputable def RZ(P:List Pr)(L:Db):List Nat:=L.filter λb=>!L.any λa=>decide ((a,b)∈P)
def zDP{P:List Pr}(c:S[p]? =#[P.map pD,2])(a b):BC false #[[zC a,zC b],6] #[p,1] S=#[.bl (decide ((a,b)∈P)),S,1]:=by have h:=mL false c (NG [(a,b)] _ mF0).1 (NG P);rw[dec_is (Cp)]at h;exact h
theorem Yr(M:S[p]? =#[P.map pD,2])(m:S[l]? =#[L.map zC,2])(C:S[o]? =#[O.map zC,2])(K:L.length<=10)(ho:O.length<=10)(w:l≠o):
  BQ (IT ts q #[p] #[l] #[o] u) S=#[IT ts q #[p] #[↑0+1] #[o] #[↑0],((S++[MO.lst ((RZ P L).map zC)]).set o (.lst ((O++RZ P L).map zC)))++[.lst ((L.filter λb=>!decide (b∈RZ P L)).map zC)],0]:=by
 have i:(L.map zC).length<1000000:=by rw[lM0];lia
 have z: ∀a b c:Option MV,AM 1 [0,1] [a,b,c]=[none,a,b]:=λ_ _ _=>rfl;have A: ∀a b c d e f:Option MV,AM 1 [2,3] [a,b,c,d,e,f]=[none,c,d]:=λ_ _ _ _ _ _=>rfl;have B: ∀a b c d e f:Option MV,AM 1 [5] [a,b,c,d,e,f]=[none,f]:=λ_ _ _ _ _ _=>rfl
 have F: ∀b,yG (xF 0) DV sW [none,some (zC b),#[p]] [(l,L.map zC)] (L.map zC) S=.ok (L.map λa=>.bl (decide ((a,b)∈P))) S:=λb=>
  gO (nE m) λa _=>(Z1 ([some (zC a),some (zC b),#[p]]) rfl rfl (by unfold sW;simp? [tup2,zDP M]))
 have I:yG (xF 0) sX DX [none,#[p],#[l]] [(l,L.map zC)] (L.map zC) S=.ok ((RZ P L).map zC) S:=
  aP (nE m) λb _=>(Z1 ([some (zC b),#[p],#[l]]) rfl (by unfold sX;simp? [rR m,i,z,F,Ft]) rfl)
 have N:(RZ P L).length<=10:=í (ĥ _ _) K;have v:=(gS.mp C).1;have s:=(gS.mp m).1;refine zN (ρ':=IT ts q #[p] #[l] #[o] #[↑0]) (S':=S++[.lst ((RZ P L).map zC)]) ?_ (zN (ρ':=IT ts q #[p] #[l] #[o] #[↑0]) (S':=(S++[MO.lst ((RZ P L).map zC)]).set o (.lst ((O++RZ P L).map zC))) ?_ ?_)
 .unfold DZ;exists 7,rR m,i,A,I
 .have n:(S++[.lst ((RZ P L).map zC)])[o]? =#[O.map zC,2]:=by rw[â v];exact C
  unfold EA;simp? [xT n,Y7 n (zM S _) (by rw[lM0,lM0];lia)];rw[<-ï]
 .obtain⟨Z,r⟩: ∃Z,Z=(S++[MO.lst ((RZ P L).map zC)]).set o (.lst ((O++RZ P L).map zC)):=⟨_,rfl⟩
  rw[<-r];have D:Z[l]? =#[L.map zC,2]:=by rw[r,yH (Ne.symm w),â s];exact m
  have H:Z[↑0]? =#[(RZ P L).map zC,2]:=by rw[r,yH #[]];exact zM _ _
  have E:Z.length=↑0+1:=by rw[r,ą,lA,lS]
  have J:yG (xF 0) sY DY [none,#[↑0]] [(l,L.map zC)] (L.map zC) Z=.ok ((L.filter λb=>!decide (b∈RZ P L)).map zC) Z:=
   aP (nE D) λb _=>(Z1 ([some (zC b),#[↑0]]) rfl (by have h:=mL true H (HQ b) ((λy G=>by refine(mM0.mp G).a λk _ g=>?_;subst g;exact⟨HQ _,by rw[sI];decide⟩));rw[iP rfl,dec_is (Gb (j:=b) (rs:=RZ P L))]at h;unfold sY;simp? [h]) rfl)
  unfold EB;simp? [rR D,i,B,J,E]
def Rx(P)(L:Db):(L.filter λb=>!decide (b∈RZ P L))=L.filter λb=>!(!L.any λa=>decide ((a,b)∈P)):=
 List.filter_congr λb c=>by
  congr 1;by_cases h:(!L.any λa=>decide ((a,b)∈P))=true
  .rw[h];exact dT0 (Ā.mpr ⟨c,h⟩)
  .rw[Bool.eq_false_iff.mpr h];exact dF0 λz=>h (Ā.mp z).2
def Ry(P)(L):(RZ P L++L.filter λb=>!decide (b∈RZ P L)).Perm L:=by rw[Rx];exact List.filter_append_perm _ L
theorem ZQ(j: ∀L:List Nat,L≠[]->(∀a∈L,a<b0)->RZ P L≠[]): ∀ k m  L O  l  u  S ,L.length<=k->L.length+O.length<=10->(∀a∈L,a<b0)->S[p]? =#[P.map pD,2]->S[l]? =#[L.map zC,2]->S[o]? =#[O.map zC,2]->l≠o->p≠o->
  ∃(D:Nat)(B:T0)(S':Sto)(v:Db),jY pY BQ (k+1+m) (IT ts q #[p] #[l] #[o] u) S=#[IT ts q #[p] #[D] #[o] B,S',0]/\S'[o]? =#[v.map zC,2]/\v.Perm (O++L)/\(∀i,i<o->i<↑0->S'[i]? =S[i]?)/\↑0<=S'.length
 |k,m,[],O,l,u,S,_,_,_,hp,hl,ho,hlo,hpo=>by refine Y4 l u S O ⟨?_,ho,(by rw[aN]),(λ_ _ _=>rfl),à _⟩;rw[show k+1+m=(k+m)+1 by lia];exact DA (by unfold pY;simp? [VH hl];rfl)
 |0,m,c::L,O,l,u,S,h,_,_,_,_,_,_,_=>absurd h (by simp)
 |k+1,m,c::L,O,l,u,S,hk,hn,hb,hp,hl,ho,hlo,hpo=>by
  have t:=Yr (ts:=ts) (q:=q) (u:=u) hp hl ho #[] #[] hlo;have d:=Ry P (c::L);have n:=j _ (by simp) hb;generalize K:RZ P _=U at t d n;generalize J:((c::L).filter λb=>!decide (b∈U))=R' at t d;have s:U.length+R'.length=(c::L).length:=by rw[<-lA];exact d.length_eq
  have E:0<U.length:=ĳ.mpr n;have G:o<S.length:=(gS.mp ho).1;have r:p<S.length:=(gS.mp hp).1
  obtain⟨D,B,S',v,e,y,I,H,C⟩:=ZQ j k m R' (O++U) (↑0+1) _ (((S++[MO.lst _]).set o (.lst _))++[.lst (R'.map zC)]) #[] (by rw[lA];lia) (λa A=>hb a (d.subset (ð _ A)))
   (by rw[â (by simp;lia),Ĉ (λz=>hpo z.symm),â r,hp])
   (by rw[è (by simp)];simp)
   (by rw[â (by simp;lia),č (by simp;lia)])
   #[] hpo
  refine Y4 D B S' v ⟨?_,y,I.trans (by rw[aA];exact d.append_left O),(λi w F=>?_),?_⟩
  .rw[show k+1+1+m=(k+1+m)+1 by lia,iT (by unfold pY;simp? [VH hl];rfl) t,e]
  .rw[H i w (by simp;lia),â (by simp;lia),Ĉ #[],â F]
  .refine í ?_ C;simp;lia
theorem Y8(h:n<=4)(X):YE [#[(n:Nat),5]] X=#[(List.range n).map zC,X,2]:=by rcases (by lia:n=0\/n=1\/n=2\/n=3\/n=4)with rfl|rfl|rfl|rfl|rfl<;>rfl
theorem Rz(Q:QOk ts as)(J: ∀a b,(a,b)∈PQ ts hs as->(b,a)∉PQ ts hs as)(S):
  ∃O:List Nat,O.Perm (List.range ↑10)/\xW 2 DE [#[ts.map tbl,6],.val (qM hs as)] S=#[(O.map λk=>((as[k]?).map aM).getD .non),S,2]:=by
 have I:=NO (hs:=hs) Q S;have aa:=Q.len;obtain⟨B,m⟩: ∃B,B=S++[MO.lst ((PQ ts hs as).map pD),.lst ((List.range ↑10).map zC),.lst []]:=⟨_,rfl⟩
 obtain⟨l',u',Z,O,e,U,n,E,M⟩:=ZQ (P:=PQ ts hs as) (q:=some (qM hs as)) (p:=↑0) (o:=↑0+2) (b0:=↑10) ((λL h hL=>by refine(Rv (λj hj y A=>KqF ts hs as j hj y A) (λx y N A v W h2=>J x y (HW.mpr ⟨N,A,λz=>v z.symm,W⟩) (HW.mpr ⟨A,N,v,h2⟩)) L h hL).a λb Y K=>?_;refine List.ne_nil_of_mem (Ā.mpr ⟨Y,?_⟩);rw[Bool.not_eq_true',List.any_eq_false];intro a H z;have:=HW.mp (Ą z);exact K a H (λe=>this.2.2.1 e.symm) this.2.2.2)) ↑10 (9999 - ↑10) (List.range ↑10) [] (↑0+1) none B (by simp) (by simp;lia) (λa H=>ø.mp H) (by rw[m];simp) (by rw[m];simp) (by rw[m];simp) #[] #[];rw[ĸ]at n;have ab:↑0+3<=Z.length:=by refine í ?_ M;rw[m];simp
 have hZ:Z=S++Z.drop S.length:=by
  refine ext_getElem? λi=>?_;by_cases hi:i<↑0
  .rw[E i (by omega) (by rw[m];simp;omega),m,â hi,â hi]
  .rw[è (by omega),getElem?_drop,Nat.add_sub_cancel' (by omega)]
 have r: ∀k∈O, ∃C,as[k]? =some C/\C∈as:=λk u=>by have s:=ø.mp (n.subset u);exact⟨as[k],gE s,Ĭ s⟩
 refine⟨O,n,RX (gF (T:=Z.drop ↑0) rfl ?_ (kT λd D=>AG ?_))⟩
 .rw[<-hZ];refine lN (zN (F:=sB) (ρ':=IT #[ts.map tbl,3] ↑33 #[↑0] none none none) (S':=S++[.lst ((PQ ts hs as).map pD)]) ?_ (zN (F:=BR) (ρ':=IT #[ts.map tbl,3] ↑33 #[↑0] #[↑0+1] none none) (S':=S++[.lst ((PQ ts hs as).map pD),.lst ((List.range ↑10).map zC)]) ?_ (zN (F:=BS) (ρ':=IT #[ts.map tbl,3] ↑33 #[↑0] #[↑0+1] #[↑0+2] none) (S':=B) ?_ (zN (F:=BU) (ρ':=IT #[ts.map tbl,3] ↑33 #[↑0] #[l'] #[↑0+2] u') (S':=Z) ?_ ?_))))
  .show sB (IT _ _ none none none none) S=_;unfold sB;simp? [I]
  .unfold BR;simp? [AN,iA,show∀X:Sto,YE [#[((as.map aM).length:Nat),5]] X=.ok _ X from λX=>by rw[lM0];exact Y8 (by omega) X];simp
  .unfold BS;rw[m];simp? [aX];simp
  .unfold BU;rw[show(10000:Nat)=↑10+1+(9999 - ↑10) by lia];exact e
  .have hc:yG (xF 0) EC sZ [none,some (qM hs as)] [(↑0+2,O.map zC)] (O.map zC) Z=.ok (O.map λk=>((as[k]?).map aM).getD .non) Z:=
    gO (nE U) λk u=>(Z1 ([some (zC k),some (qM hs as)]) rfl rfl (by refine(r k u).a λC w _=>?_;unfold sZ;simp? [AN,ix_tup (S:=Z) (i:=(k:Int)) (d:=aM C) (iC (by rw[ë,w];rfl))];rw[w];rfl))
   have G: ∀a b c d e f:Option MV,AM 1 [1] [a,b,c,d,e,f]=[none,b]:=λ_ _ _ _ _ _=>rfl;unfold IY;exists 7,rR U,show(List.map zC O).length<1000000 from(by rw[lM0,n.length_eq,ñ];omega),G,hc
 .refine(mM0.mp D).a λk u g=>?_;subst g;refine(r k u).a λC w K=>?_;rw[w];show pd (aM C)=true;unfold aM;rw[gT,yS,yS,Fj,HQ,gT,sK λd D=>(NB ((Q.at' C K).tm d D)).1];rfl
theorem Sa:vn (.tup [.str IS,v])=none:=by
 cases v with
 |str y=>simp[vn]
 |_=>rfl
def VN(N:Ch)(t:MV):Bool:=match vn t with |some x=>!decide (x∈N)|none=>false
def VO(N)(v):VN N (.tup [.str IS,v])=false:=by unfold VN;rw[Sa]
theorem Sb(b:S[n]? =#[N.map MV.str,2])(h:wY t):zQ 2 uB [.val t,#[n,1]] S=#[.bl (VN N t),S,1]:=by
 refine FZ rfl ?_;show yE _=_;rcases h with⟨x,rfl⟩|⟨v,_,rfl⟩
 .have a:=mL true b (tL x) DF;rw[dec_is (KI)]at a;show yE ((BC true _ _ S).bind λr S=>R.ok _ S)=_;rw[a];rfl
 .rw[VO];rfl
noncomputable abbrev SM:List Nat:=[115,111,109,101,32]
def JR(N:Ch)(t:MV):MV:=if VN N t=true then .tup [.str JQ,.str (SM++(vn t).getD [])]else t
def Sh(t:MV):Prop:=wY t/\ ∀x,vn t=some x->x.length<=100
def VR(h:Sh t):wY (JR N t):=by
 unfold JR;split
 .exact .inl ⟨_,rfl⟩
 .exact h.1
theorem Sd(b:S[n]? =#[N.map MV.str,2])(h:Sh t):zQ 2 vH [.val t,#[n,1]] S=#[JR N t,S,1]:=by
 refine iS rfl ?_ (AG (NB (VR h)).1) (λl e=>by rcases VR h with⟨x,e'⟩|⟨v,_,e'⟩<;>rw[e']at e<;>cases e);have a:=Sb b h.1;show yE (vG [some t,some _] S)=_;unfold vG vF JR;by_cases hw:VN N t=true
 .rcases h.1 with⟨x,rfl⟩|⟨v,_,rfl⟩
  .have c:=h.2 x (CC x);rw[iP hw];rw[hw]at a;simp? [a,AN,Ra (x:=SM) (by show 5+x.length<=1000;lia),tup2];rfl
  .rw[VO]at hw;cases hw
 .rw[iN0 hw];rw[Bool.not_eq_true]at hw;rw[hw]at a;simp? [a];rfl
theorem Ys(L)(x:α):qF (L++[x]) (-1)=some x:=by
 unfold qF Af;have a:(L++[x]).length=L.length+1:=by simp
 rw[iN0 ↑4,iP (by rw[a];lia)];show _[_]? =_;rw[show((-1+(_:Int)).toNat)=L.length by lia];simp
noncomputable abbrev B8:List Nat:=[115,97,109,101]
abbrev zEP(a b:MV):MV:=.tup [.str B8,a,b]
def C1(t i:Int):List Nat:=[99,101,108,108,32]++OR t++[32]++OR i
abbrev cV(t i:Int):MV:=.tup [.str JQ,.str (C1 t i)]
theorem Se(h:0<=t/\t<10)(hi:0<=i/\i<10)(d:vJ 3 ρ S=.ok #[t,5] S)(a:vJ 10 ρ S=.ok #[i,5] S):(W8 [99,101,108,108,32] (zAL (vJ 3) (W8 [32] (zAL (vJ 10) fzF)))) [] ρ S=#[.str (C1 t i),S,1]:=by
 have g: ∀{o:Db}{r:Er}{y:Db}{k:List Nat->R Er},Pm r=some y->(o++y).length<=1000->zAK o r k=k _:=λb n=>by unfold zAK;rw[b];exact iP (fits #[])
 have f: ∀i:Int,0<=i/\i<10->Pm #[i,5]=some _/\(OR i).length=1:=λi hi=>
  ⟨iP (Nat.lt_of_le_of_lt (Nat.log2_le_self _) #[]),(by
    have g: ∀k:Fin 10,(OR ((k:Nat):Int)).length=1:=by decide+kernel
    have:=g ⟨i.toNat,by lia⟩;rwa [show((_:Nat):Int)=i by show((i.toNat:Nat):Int)=i;lia]at this)⟩
 obtain⟨c,m⟩:=f t h;obtain⟨e,j⟩:=f i hi;unfold W8;rw[g rfl ↑4];unfold zAL;rw[d,aX,g c (by simp only[lA,lC0,ç];lia)];dsimp only;rw[g rfl (by simp only[lA,lC0,ç];lia),a,aX,g e (by simp only[lA,lC0,ç];lia)];rfl
abbrev PS:=List (List Nat)×List MV×List MV
def stp(t i:Int)(c:MV)(s:PS):PS:=if VN s.1 c=true then(s.1++[(vn c).getD []],s.2.1++[c],s.2.2)else(s.1,s.2.1++[cV t i],s.2.2++[zEP (cV t i) c])
noncomputable abbrev PF(tb at':MV)(n:Nat)(a b c d e f g h i:T0):Rho:=[some tb,some at',#[n],a,b,c,d,e,f,g,h,i]
structure PSt(Z:Sto)(a:Nat)(s:PS):Prop where
 n:Z[a]? =#[s.1.map MV.str,2]
 c:Z[a+1]? =#[s.2.1,2]
 m:Z[a+2]? =#[s.2.2,2]
theorem Yu(B:0<=t/\t<10)(hi:0<=i/\i<10)(y:wY c)(C:s.1.length<=1000)(D:s.2.1.length<=1000)(E:s.2.2.length<=1000)(h:PSt Z a s):
  ∃q,mG (PF tb at' n #[t,0] b' c' #[a] e #[a+1] #[a+2] #[i,0] (some c)) Z=
   #[PF tb at' n #[t,0] b' c' #[a] e #[a+1] #[a+2] #[i,0] (some c),q,0]/\PSt q a (stp t i c s)/\(∀j,j<a->q[j]? =Z[j]?)/\q.length=Z.length:=by
 obtain⟨p,m,w⟩:=h;have b:=Sb p y;unfold mG AD stp;by_cases hw:VN s.1 c=true
 .rw[iP hw];rw[hw]at b;rcases y with⟨x,rfl⟩|⟨v,_,rfl⟩
  .have o:(Z.set (a+1) (.lst (s.2.1++[.tup [.str JQ,.str x]])))[a]? =#[s.1.map MV.str,2]:=by rw[yH (by omega)];exact p
   refine⟨(Z.set (a+1) (.lst (s.2.1++[.tup [.str JQ,.str x]]))).set a (.lst (s.1.map MV.str++[.str x])),?_,⟨?_,?_,?_⟩,λj A=>?_,by simp⟩
   .simp? [b];refine zN (ρ':=PF tb at' n #[t,0] b' c' #[a] e #[a+1] #[a+2] #[i,0] #[[.str JQ,.str x],3]) (S':=Z.set (a+1) (.lst (s.2.1++[.tup [.str JQ,.str x]]))) ?_ ?_
    .exists 7,xT m,dH m (by omega)
    .exists 7,xT o,AN,dH o (by rw[lM0];omega)
   .rw[get_set o,CC,ï];rfl
   .rw[yH (by omega),get_set m]
   .rw[yH #[],yH (by omega),w]
   .rw[yH (by omega),yH (by omega)]
  .rw[VO]at hw;cases hw
 .rw[iN0 hw];rw[Bool.not_eq_true]at hw;rw[hw]at b;have u:(Z.set (a+1) (.lst (s.2.1++[cV t i])))[a+1]? =#[s.2.1++[cV t i],2]:=get_set m;have r:(Z.set (a+1) (.lst (s.2.1++[cV t i])))[a+2]? =#[s.2.2,2]:=by rw[yH (by omega)];exact w
  have z:=Se B hi (ρ:=PF tb at' n #[t,0] b' c' #[a] e #[a+1] #[a+2] #[i,0] (some c)) (S:=Z) rfl rfl;have k:qF (s.2.1++[cV t i]) (-1)=some (cV t i):=Ys _ _;refine⟨(Z.set (a+1) (.lst (s.2.1++[cV t i]))).set (a+2) (.lst (s.2.2++[zEP (cV t i) c])),?_,⟨?_,?_,?_⟩,λj A=>?_,by simp⟩
  .simp? [b,fT,iF];refine zN (ρ':=PF tb at' n #[t,0] b' c' #[a] e #[a+1] #[a+2] #[i,0] (some c)) (S':=Z.set (a+1) (.lst (s.2.1++[cV t i]))) ?_ ?_
   .exists 7,xT m,z,dH m (by omega)
   .exists 7,xT r,aH u (i:= -1) (d:=cV t i) k,dH r (by omega)
  .rw[yH #[],yH (by omega)];exact p
  .rw[yH (by omega)];exact u
  .rw[get_set r]
  .rw[yH (by omega),yH (by omega)]
noncomputable def zEQ:Int->List MV->List MV
 |_,[]=>[]
 |i,c::cs=>.tup [.int i,c]::zEQ (i+1) cs
def stps(t:Int):Int->List MV->PS->PS
 |_,[],s=>s
 |i,c::cs,s=>stps t (i+1) cs (stp t i c s)
def Gz(t i)(c)(s):(stp t i c s).1.length<=s.1.length+1/\(stp t i c s).2.1.length=s.2.1.length+1/\(stp t i c s).2.2.length<=s.2.2.length+1:=by unfold stp;split<;>simp
theorem Sf(k:0<=t/\t<10): ∀ m (i:Int) s  Z  u v ,(∀c∈m,wY c)->0<=i->i+m.length<=10->s.1.length+m.length<=1000->s.2.1.length+m.length<=1000->s.2.2.length+m.length<=1000->PSt Z a s->
  ∃(q:Sto)(z B:T0),jK (Io 2 (wH (xF 10) (wH (xF 11) vS))) mG [] (zEQ i m) (PF tb at' n #[t,0] b' c' #[a] e #[a+1] #[a+2] u v) Z=
   #[PF tb at' n #[t,0] b' c' #[a] e #[a+1] #[a+2] z B,q,0]/\PSt q a (stps t i m s)/\(∀j,j<a->q[j]? =Z[j]?)/\q.length=Z.length
 |[],i,s,Z,u,v,_,_,_,_,_,_,h=>(ZY Z u v rfl h (λ_ _=>rfl) rfl)
 |c::m,i,s,Z,u,v,hc,h0,hi,h1,h2,h3,h=>by rw[lC0]at hi h1 h2 h3;obtain⟨J,G,p1,I,D⟩:=Yu k ⟨h0,by lia⟩ (hc c mF0) #[] #[] #[] h;have y:=Gz t i c s;obtain⟨q,z,B,w,p2,r,o⟩:=Sf k m (i+1) _ J _ _ (λd p=>hc d (mO _ p)) #[] #[] #[] #[] #[] p1;exact ZY q z B ((zW rfl G (yX _)).trans w) p2 (λj b=>(r j b).trans (I j b)) (o.trans D)
def Z2(ds):Jf ds=zEQ 0 ds:=by
 have g: ∀(ds:R0)(k:Nat),((ds.zipIdx k).map λp=>MV.tup [.int (p.2:Nat),p.1])=zEQ (k:Int) ds:=λds=>by
  induction ds with
  |nil=>intro k;rfl
  |cons d ds ih=>
   intro k;rw[zipIdx_cons,æ,ih _];rfl
 exact g ds 0
theorem Ko(ds)(S):iQ [.new ds] S=.ok #[ds,6] S:=rfl
noncomputable abbrev Si:List Nat:=[115,111,109,101]
noncomputable abbrev Sj:List Nat:=[101,97,99,104]
abbrev VT(tms:R0)(ky:Int):List MV:=iE tms none (some ky)
abbrev ZR(tms:R0)(ky:Int):List MV:=iE tms (some ky) none
def tM(N:Ch)(t ky:Int)(tms:R0):List MV:=
 [.tup [.str Si,.int t,.tup (VT tms ky++(ZR tms ky).map (JR (N++AO (VT tms ky))))],.tup [.str Sj,.int t,.tup (VT tms ky++(stps t 0 (ZR tms ky) (N++AO (VT tms ky),[],[])).2.1)]]++(stps t 0 (ZR tms ky) (N++AO (VT tms ky),[],[])).2.2
theorem CF(t): ∀ d  i  s ,(stps t i d s).2.1.length=s.2.1.length+d.length/\(stps t i d s).2.2.length<=s.2.2.length+d.length
 |[],_,_=>⟨rfl,à _⟩
 |c::d,i,s=>by have h:=Gz t i c s;have g:=CF t d (i+1) (stp t i c s);show(stps t _ d _).2.1.length=_/\_;rw[lC0];exact⟨by lia,í g.2 #[]⟩
theorem zDQ{ts:Tk}(ht:0<=t/\t<10)(L:qF (ts.map tbl) t=some (tbl (ar,ky)))(C: ∀d∈VT tms ky,wY d)(A: ∀d∈ZR tms ky,Sh d)(O:(VT tms ky).length<=10)(I:(ZR tms ky).length<=10)(hn:S[n]? =#[N.map MV.str,2])(W:N.length+(AO (VT tms ky)).length<=100)(z:DI ↑0 (tM N t ky tms)):
  zQ 3 mR [#[ts.map tbl,6],.val (aM (t,tms)),#[n,1]] S=#[tM N t ky tms,S,2]:=by
 unfold tM at z ⊢;obtain⟨o,w⟩: ∃o,o=VT tms ky:=⟨_,rfl⟩
 obtain⟨p,s⟩: ∃p,p=ZR tms ky:=⟨_,rfl⟩
 obtain⟨M,K⟩: ∃M,M=N++AO o:=⟨_,rfl⟩
 rw[<-w]at C O W;rw[<-s]at A I;rw[<-w, <-s, <-K]at z ⊢;have aa:M.length<=100:=by rw[K,lA];lia
 have cI: ∀Y:Sto,dN #[tms,6] none (some ky) Y=.ok #[o,6] Y:=λY=>by rw[w];rfl
 have Q: ∀Y:Sto,dN #[tms,6] (some ky) none Y=.ok #[p,6] Y:=λY=>by rw[s];rfl
 obtain⟨E,q⟩: ∃E,E=S++[MO.lst #[M,8],.lst [],.lst []]:=⟨_,rfl⟩
 obtain⟨fs,D⟩: ∃fs,fs=MV.tup [.str Si,.int t,.tup (o++p.map (JR M))]:=⟨_,rfl⟩
 refine(Sf (tb:=.tup (ts.map tbl)) (at':=aM (t,tms)) (n:=n) (a:=↑0) (b':=#[ky,0]) (c':=#[o,3]) (e:=some fs) ht p 0 (M,[],[]) E none none (λc hc=>(A c hc).1) #[] #[] (by dsimp only;lia) (by simp;lia) (by simp;lia) ⟨by rw[q];simp,by rw[q];simp,by rw[q];simp⟩).n λZ u v e U qZ lZ=>?_
 have hZ:Z=S++Z.drop S.length:=by
  refine ext_getElem? λi=>?_;by_cases hi:i<↑0
  .rw[qZ i hi,q,â hi,â hi]
  .rw[è #[],getElem?_drop,Nat.add_sub_cancel' #[]]
 have P:=VB (tm0:=.int t) (tms:=o) C #[] S;have H:(N.map MV.str).length+((AO o).map MV.str).length<=1000000:=by rw[lM0,lM0];lia
 have G: ∀a b c d e f g h i j k l:Option MV,AM 1 [6] [a,b,c,d,e,f,g,h,i,j,k,l]=[none,g]:=λ_ _ _ _ _ _ _ _ _ _ _ _=>rfl;have X:(S++[MO.lst #[M,8]])[↑0]? =#[M.map MV.str,2]:=zM _ _
 have J:yG (xF 0) oH nQ [none,#[↑0]] [] p (S++[.lst #[M,8]])=.ok (p.map (JR M)) (S++[.lst #[M,8]]):=by
  have:=gO (gf:=xF 0) (cf:=oH) (ef:=nQ) (ρb:=[none,#[↑0]]) (ds:=p) (f:=id) (g:=JR M) (yX (S++[MO.lst #[M,8]])) λd hd=>⟨[some d,#[↑0]],rfl,rfl,by
   unfold nQ;exists 7,Sd X (A d hd)
   try rfl⟩
  rwa [List.map_id]at this
 have r: ∀Y:Sto,yC (.val (aM (t,tms))) #[1,5] Y=.ok #[tms,6] Y:=λ_=>rfl;have B:=CF t p 0 (M,[],[]);refine gF (T:=Z.drop ↑0) rfl ?_ z;rw[<-hZ];refine lN (zN (F:=ED) (ρ':=PF ↑17 (aM (t,tms)) n #[t,0] none none none none none none none none) (S':=S) rfl (zN (F:=tB) (ρ':=PF ↑17 (aM (t,tms)) n #[t,0] #[ky,0] none none none none none none none) (S':=S) ?_ (zN (F:=tD) (ρ':=PF ↑17 (aM (t,tms)) n #[t,0] #[ky,0] #[o,3] none none none none none none) (S':=S) ?_ (zN (F:=tE) (ρ':=PF ↑17 (aM (t,tms)) n #[t,0] #[ky,0] #[o,3] #[↑0] none none none none none) (S':=S++[.lst #[M,8]]) ?_ (zN (F:=tF) (ρ':=PF ↑17 (aM (t,tms)) n #[t,0] #[ky,0] #[o,3] #[↑0] (some fs) none none none none) (S':=S++[.lst #[M,8]]) ?_ (zN (F:=tG) (ρ':=PF ↑17 (aM (t,tms)) n #[t,0] #[ky,0] #[o,3] #[↑0] (some fs) #[↑0+1] none none none) (S':=S++[.lst #[M,8],.lst []]) ?_ (zN (F:=tH) (ρ':=PF ↑17 (aM (t,tms)) n #[t,0] #[ky,0] #[o,3] #[↑0] (some fs) #[↑0+1] #[↑0+2] none none) (S':=E) ?_ (zN (F:=tI) (ρ':=PF ↑17 (aM (t,tms)) n #[t,0] #[ky,0] #[o,3] #[↑0] (some fs) #[↑0+1] #[↑0+2] u v) (S':=Z) ?_ ?_))))))))
 .unfold tB;exists 7,ix_tup (S:=S) L
 .unfold tD;exists 7,r,cI
 .unfold tE;simp? [tup2,lst1,P,ER (uW hn) (show Ah S (.new ((AO o).map MV.str))=some _ from rfl) (fits H)];rw[<-ï, <-K]
 .unfold tF;simp? [r,Q,HS,iP (show p.length<1000000 by lia),G,J,Ko,rP (x:=o) (y:=p.map (JR M)) (fits (show _<=1000000 by rw[lM0];lia))];rw[D]
 .unfold tG;simp? [aX];simp
 .unfold tH;rw[q];simp? [aX];simp
 .unfold tI;simp? [r,Q,Yh,Z2];exact e
 .unfold EE;simp? [HP U.c,rP (x:=o) (fits (show _<=1000000 by rw[B.1];simp;lia)),T2,ER (show Ah Z (.new [fs,.tup [.str Sj,.int t,.tup (o++(stps t 0 p (M,[],[])).2.1)]])=some _ from rfl) (uW U.m) (fits (show _<=1000000 by have:=B.2;simp at this ⊢; lia))];rw[D]
  try rfl
def Cs(h:wY d):pd d=true:=(NB h).1
theorem Ha(t): ∀ q  i  s ,(∀c∈q,wY c)->(∀d∈s.2.1,wY d)->(∀d∈s.2.2,pd d=true)->(∀d∈(stps t i q s).2.1,wY d)/\ ∀d∈(stps t i q s).2.2,pd d=true
 |[],_,_,_,h1,h2=>⟨h1,h2⟩
 |c::q,i,s,hc,h1,h2=>by
  refine Ha t q _ _ (λd hd=>hc d (mO _ hd)) ?_ ?_
  .unfold stp;split
   .intro d hd;rcases á.mp hd with hd|hd
    .exact h1 d hd
    .rw[mS.mp hd];exact hc c mF0
   .intro d hd;rcases á.mp hd with hd|hd
    .exact h1 d hd
    .rw[mS.mp hd];exact .inl ⟨_,rfl⟩
  .unfold stp;split
   .exact h2
   .intro d hd;rcases á.mp hd with hd|hd
    .exact h2 d hd
    .rw[mS.mp hd,gT,sK];intro x m;rcases mC.mp m with rfl|m
     .rfl
     .rcases mC.mp m with rfl|m
      .exact Cs (.inl ⟨_,rfl⟩)
      .rw[mS.mp m];exact Cs (hc c mF0)
def Sk(e: ∀d∈VT tms ky,wY d)(h: ∀d∈ZR tms ky,Sh d): ∀d∈tM N t ky tms,pd d=true:=by
 obtain⟨m,j⟩:=Ha t _ 0 (N++AO _,[],[]) (λc i=>(h c i).1) (λd a=>by simp at a) (λd a=>by simp at a)
 have q: ∀(w:Db)(L:R0),(∀d∈L,wY d)->pd (.tup [.str w,.int t,.tup L])=true:=λw L k=>by
  rw[gT,sK];intro x b;rcases mC.mp b with rfl|b
  .rfl
  .rcases mC.mp b with rfl|b
   .rfl
   .rw[mS.mp b,gT,sK λd a=>Cs (k d a)]
 intro d a;rcases á.mp a with a|a
 .rcases mC.mp a with rfl|a
  .refine q _ _ λd a=>?_;rcases á.mp a with a|a
   .exact e d a
   .refine(mM0.mp a).a λc i g=>?_;subst g;exact VR (h c i)
  .rw[mS.mp a];refine q _ _ λd a=>?_;rcases á.mp a with a|a
   .exact e d a
   .exact m d a
 .exact j d a
noncomputable abbrev SC(tb q:MV)(f n p a o r:T0):Rho:=[some tb,some q,f,n,p,a,o,r]
structure AtP(ts:Tk)(ky:Int)(a:Int×List MV):Prop where
 t:0<=a.1/\a.1<10
 tb: ∃ar,qF (ts.map tbl) a.1=some (tbl (ar,ky))
 ik: ∀d∈VT a.2 ky,wY d
 rs: ∀d∈ZR a.2 ky,Sh d
 il:(VT a.2 ky).length<=10
 rl:(ZR a.2 ky).length<=10
 tm: ∀d∈a.2,wY d
 ln:a.2.length<=10
theorem Ct(tms):(AO tms).length<=tms.length:=í (rA _ _) (by have:=Ĝ vn tms;simp only[ç]at this ⊢; lia)
theorem ZS(A:AtP ts ky a)(N):(tM N a.1 ky a.2).length<=12:=by
 have h:=(CF a.1 (ZR a.2 ky) 0 (N++AO (VT a.2 ky),[],[])).2;have:=A.rl;unfold tM;simp only[lA,lC0,ç]at h ⊢
 lia
theorem Yv(A:AtP ts ky a)(u:N.length<=60)(w:ps.length<=1000)(S):
  eY (SC ↑17 q f #[↑0] #[↑0+1] (some (aM a)) o r) (S++[.lst #[N,8],.lst ps])=#[SC ↑17 q f #[↑0] #[↑0+1] (some (aM a)) o r,S++[.lst ((N++AO a.2).map MV.str),.lst (ps++tM N a.1 ky a.2)],0]:=by
 obtain⟨z,c⟩:=A.tb;obtain⟨Z,b⟩: ∃Z,Z=S++[.lst #[N,8],.lst ps]:=⟨_,rfl⟩
 have k:Z[↑0]? =#[N.map MV.str,2]:=by rw[b];simp
 have j:Z[↑0+1]? =#[ps,2]:=by rw[b];simp
 have m:=ZS A N;have p:=Ct a.2;have s:=Ct (VT a.2 ky);have v:=A.il;have y:=A.ln;have e:=zDQ A.t c A.ik A.rs A.il A.rl k #[] ((kT λd n=>AG (Sk (A.ik) (A.rs) d n)));rw[<-b];refine zN (ρ':=SC ↑17 q f #[↑0] #[↑0+1] (some (aM a)) o r) (S':=Z.set (↑0+1) (.lst (ps++tM N a.1 ky a.2))) ?_ ?_
 .unfold oX;exists 7,xT j,show zQ 3 mR [.val _,.val (aM a),#[↑0,1]] Z=_ from e,VJ j (es:=tM N a.1 ky a.2) (by omega)
 .have i:(Z.set (↑0+1) (.lst (ps++tM N a.1 ky a.2)))[↑0]? =#[N.map MV.str,2]:=by rw[yH #[]];exact k
  have h:=VB (tm0:=.int a.1) (tms:=a.2) A.tm #[];unfold oY;simp? [xT i,lst1,show aM a=.tup [.int a.1,.tup a.2]from rfl,h,VJ i (es:=(AO a.2).map MV.str) (by rw[lM0,lM0];lia)];rw[b, <-ï];simp
noncomputable def CG(ky:Int×List MV->Int):List (List Nat)->List (Int×List MV)->List MV
 |_,[]=>[]
 |N,a::L=>tM N a.1 (ky a) a.2++CG ky (N++AO a.2) L
theorem Sl: ∀ L  N  ps  x ,(∀a∈L,AtP ts (ky a) a)->N.length+10 * L.length<=60->ps.length+12 * L.length<=1000->
  ∃(d:T0)(M:Ch),jK (xF 5) eY [] #[L,9] (SC ↑17 q f #[↑0] #[↑0+1] x o r) (S++[.lst #[N,8],.lst ps])=#[SC ↑17 q f #[↑0] #[↑0+1] d o r,S++[.lst #[M,8],.lst (ps++CG ky N L)],0]
 |[],N,ps,x,_,_,_=>(Y9 x N (by rw[show CG ky N []=[]from rfl,aN];rfl))
 |a::L,N,ps,x,hA,h1,h2=>by rw[lC0]at h1 h2;have A:=hA a mF0;have j:=Ct a.2;have h:=A.ln;have i:=ZS A N;obtain⟨d,M,c⟩:=Sl L (N++AO a.2) (ps++tM N a.1 (ky a) a.2) _ (λb e=>hA b (mO _ e)) (by rw[lA];lia) (by rw[lA];lia);refine Y9 d M ?_;rw[æ,zW rfl (Yv A #[] #[] S) (yX _),c];rw[show CG ky N _=tM N a.1 _ a.2++CG ky _ L from rfl,aA]
noncomputable abbrev Cu:List Nat:=[121,101,115]
def GC:List (List MV)->MV
 |[]=>.tup [.str Cu]
 |xs::L=>.tup (xs++[GC L])
theorem Hb(hs:stay gs S): ∀(L d:Y0) r ,(∀xs∈L,↑8<=10)-> ∃r',jK (xF 7) eZ gs (L.map MV.tup) (SC tb q f n #[lp] a (some (GC d)) r) S=#[SC tb q f n #[lp] a (some (GC (L.reverse++d))) r',S,0]
 |[],d,r,_=>⟨r,rfl⟩
 |p::L,d,r,h=>by obtain⟨r',m⟩:=Hb hs L _ _ λx c=>h x (mO _ c);refine⟨r',?_⟩;have e:=h p mF0;have b:yW _ _ S=#[GC (p::d),S,1]:=rP (fits (by simp;lia));rw[æ,zW (ρ':=SC tb q f n #[lp] a (some (GC (p::d))) #[p,3]) rfl (by unfold eZ oZ;simp? [show∀(x:MV)(Z:Sto),xY [.val x] Z=.ok _ Z from λ_ _=>mZ (by simp),b]) hs,m,reverse_cons,aA];rfl
noncomputable def C5:MV->List MV
 |.tup xs=>xs
 |_=>[]
theorem ZT(t): ∀ m  i  s ,(∀d∈s.2.2, ∃xs,d=.tup xs/\↑8=3)-> ∀d∈(stps t i m s).2.2, ∃xs,d=.tup xs/\↑8=3
 |[],_,_,h=>h
 |c::m,i,s,h=>ZT t m _ _ (by
  unfold stp;split
  .exact h
  .intro d hd;rcases á.mp hd with hd|hd
   .exact h d hd
   .rw[mS.mp hd];exact⟨_,rfl,rfl⟩)
theorem GD(ky): ∀ L  N , ∀d∈CG ky N L, ∃xs,d=.tup xs/\↑8=3
 |[],_,d,hd=>by cases hd
 |a::L,N,d,hd=>by
  rcases á.mp hd with hd|hd
  .unfold tM at hd;rcases á.mp hd with hd|hd
   .rcases mC.mp hd with rfl|hd
    .exact⟨_,rfl,rfl⟩
    .rw[mS.mp hd];exact⟨_,rfl,rfl⟩
   .exact ZT a.1 _ 0 _ (λd hd=>by cases hd) d hd
  .exact GD ky L _ d hd
theorem VU: ∀ L  N ,(∀a∈L,AtP ts (ky a) a)-> ∀d∈CG ky N L,pd d=true
 |[],_,_,d,hd=>by cases hd
 |a::L,N,hA,d,hd=>by
  rcases á.mp hd with hd|hd
  .exact Sk (hA a mF0).ik (hA a mF0).rs d hd
  .exact VU L _ (λb m=>hA b (mO _ m)) d hd
theorem Yw(a b)(c:UX a=true)(d:UX b=true):UX (a++b)=true:=by
 induction a with
 |nil=>exact d
 |cons x a ih=>
  rw[yS,aE]at c;rw[List.cons_append,yS,c.1,ih c.2];rfl
theorem Cv: ∀ X ,(∀xs∈X,pd (.tup xs)=true)->pd (GC X)=true
 |[],_=>rfl
 |xs::X,h=>by have d:=h xs mF0;unfold GC;exact Yw _ _ d (by rw[yS,Cv X λy a=>h y (mO _ a)];rfl)
def Yx(c: ∀a b,(a,b)∈L->(b,a)∉L):Lh L=none:=by unfold Lh;rw[List.find?_eq_none];intro p d z;exact c p.1 p.2 d (Ą z)
theorem Yy(Q:QOk ts as)(u: ∀a b,(a,b)∈PQ ts hs as->(b,a)∉PQ ts hs as)(K: ∀a∈as,AtP ts (ky a) a)(hh:hs.length<=20)(S):
  ∃m:List (Int×List MV),(∀a∈m,a∈as)/\m.length=↑10/\xW 2 yB [#[ts.map tbl,6],.val (qM hs as)] S=#[GC ((CG ky hs m).map C5),S,1]:=by
 have I:=VL (hs:=hs) Q S;rw[Yx u]at I;have Y:=Q.len;obtain⟨O,J,P⟩:=Rz Q u (S++[MO.lst #[hs,8],.lst []]);obtain⟨m,i⟩: ∃m,m=O.map λk=>(as[k]?).getD (0,[]):=⟨_,rfl⟩
 have z: ∀k∈O, ∃C,as[k]? =some C/\C∈as:=λk z=>by have s:=ø.mp (J.subset z);exact⟨as[k],gE s,Ĭ s⟩
 have H: ∀a∈m,a∈as:=λa j=>by rw[i]at j;obtain⟨k,A,rfl⟩:=mM0.mp j;obtain⟨C,e,U⟩:=z k A;rw[e];exact U
 have hl:m.length=as.length:=by rw[i,lM0,J.length_eq,ñ]
 rw[show(O.map λk=>((as[k]?).map aM).getD .non)=m.map aM by rw[i,ď];refine List.map_congr_left λk A=>?_;obtain⟨C,e,_⟩:=z k A;show((as[k]?).map aM).getD .non=aM ((as[k]?).getD (0,[]));rw[e];rfl]at P;obtain⟨B,M,L⟩:=Sl (ts:=ts) (ky:=ky) (q:=qM hs as) (f:=some .non) (o:=none) (r:=none) (S:=S) m hs [] none (λa j=>K a (H a j)) #[] (by simp;lia);rw[ĸ]at L;have G:=VU (ts:=ts) (ky:=ky) m hs λa j=>K a (H a j);have v:=GD ky m hs;have h:=(show ((CG ky hs m).map C5).map MV.tup=CG ky hs m by rw[ď];refine(List.map_congr_left λd y=>?_).trans (List.map_id _);obtain⟨xs,rfl,_⟩:=GD ky m hs d y;rfl);obtain⟨X,D⟩: ∃X,X=(CG ky hs m).map C5:=⟨_,rfl⟩
 rw[<-D]at h;have p: ∀xs∈X,↑8<=10/\pd (.tup xs)=true:=λxs c=>by rw[D]at c;obtain⟨d,y,rfl⟩:=mM0.mp c;obtain⟨ys,rfl,h3⟩:=v d y;exact⟨by show ys.length<=10;lia,G _ y⟩
 refine⟨m,H,hl,?_⟩;rw[<-D];obtain⟨Z,E⟩: ∃Z,Z=S++[.lst #[M,8],.lst (X.map MV.tup)]:=⟨_,rfl⟩
 have N:Z[↑0+1]? =#[X.map MV.tup,2]:=by rw[E];simp
 obtain⟨W,w⟩:=Hb (tb:=.tup (ts.map tbl)) (q:=qM hs as) (f:=some .non) (n:=#[↑0]) (a:=B) (lp:=↑0+1) (nE N) X.reverse [] none (λxs c=>(p xs (mem_reverse.mp c)).1);rw[List.reverse_reverse,aN]at w;refine RX (nA (T:=[.lst #[M,8],.lst (X.map MV.tup)]) rfl ?_ (AG (Cv X λxs c=>(p xs c).2)) (λl e=>by cases X<;>cases e));refine lN (zN (F:=yM) (ρ':=SC ↑17 (qM hs as) (some .non) none none none none none) (S':=S) ?_ (zN (F:=kL) (S':=S) rfl (zN (F:=sC) rfl (zN (F:=fA) (ρ':=SC ↑17 (qM hs as) (some .non) #[↑0] #[↑0+1] none none none) (S':=S++[.lst #[hs,8],.lst []]) ?_ (zN (F:=fB) (ρ':=SC ↑17 (qM hs as) (some .non) #[↑0] #[↑0+1] B none none) (S':=Z) ?_ (zN (F:=sE) (S':=Z) rfl (zN (F:=fC) (ρ':=SC ↑17 (qM hs as) (some .non) #[↑0] #[↑0+1] B (some (GC X)) W) (S':=Z) ?_ (by rw[<-E];rfl))))))))
 .show yM (SC _ (qM hs as) none none none none none none) S=_;unfold yM;simp? [I];rfl
 .unfold fA;simp? [aX];simp
 .unfold fB;simp? [P,vM];rw[L,E,h]
 .unfold fC;simp? [show zCZ [#[↑0+1,1]] Z=.ok ⟨(X.map MV.tup).reverse,[(↑0+1,X.map MV.tup)]⟩ Z by unfold zCZ srcOf;dsimp only;rw[N];rfl];rw[<-List.map_reverse];exact w
def Sn(c:Lh (PQ ts hs as)=some p):p.1<↑10/\p.2<↑10/\p∈PQ ts hs as/\(p.2,p.1)∈PQ ts hs as:=by have b:=List.mem_of_find?_eq_some c;have d:=List.find?_some c;have a:=HW.mp b;exact⟨a.1,a.2.1,b,Ą d⟩
theorem So(Q:QOk ts as)(d:Lh (PQ ts hs as)=some p)(a:To (p.1) (p.2)=true)(S):
  yB [.tup (ts.map tbl),qM hs as] S=.exc "Ring" [("ring",.loc (↑0+1))] (S++[.lst [zC p.1,zC p.2],.lst [zC p.1,zC p.2]]):=by
 have b:=VL (hs:=hs) Q S;rw[d]at b;have z:(S++[MO.lst [zC p.1,zC p.2]])[↑0]? =some _:=zM _ _;have c:yM (SC ↑17 (qM hs as) none none none none none none) S=#[SC ↑17 (qM hs as) #[↑0] none none none none none,S++[.lst [zC p.1,zC p.2]],0]:=by unfold yM;simp? [b];rfl
 have i:kL (SC ↑17 (qM hs as) #[↑0] none none none none none) (S++[.lst [zC p.1,zC p.2]])=.exc "Ring" [("ring",.loc (↑0+1))] (S++[.lst [zC p.1,zC p.2],.lst [zC p.1,zC p.2]]):=by
  have e:Ps "Ring" "ring" #[↑0,1] (S++[.lst [zC p.1,zC p.2]])=.exc "Ring" [("ring",.loc (↑0+1))] (S++[.lst [zC p.1,zC p.2],.lst [zC p.1,zC p.2]]):=by unfold Ps;dsimp only;rw[z];dsimp only;rw[iP a];simp
  unfold kL;exists 7,e,e
 show yE (wZ (SC ↑17 (qM hs as) none none none none none none) S)=_;have h:wZ (SC ↑17 (qM hs as) none none none none none none) S=.exc "Ring" [("ring",.loc (↑0+1))] (S++[.lst [zC p.1,zC p.2],.lst [zC p.1,zC p.2]]):=by unfold wZ;refine zN c ?_;show(kL _ _).bind _=_;rw[i];rfl
 rw[h];rfl
theorem isi_tt(xs)(S):iG [#[xs,6],.val (.typ "tuple")] S=#[.bl true,S,1]:=rfl
theorem isi_ss(x)(S):iG [.val (.str x),.val (.typ "str")] S=#[.bl true,S,1]:=rfl
theorem isi_is(i)(S):iG [#[i,5],.val (.typ "str")] S=#[.bl false,S,1]:=rfl
def Z4(S)(h:x=a\/x=b):BC true (.val (.str x)) #[[.str a,.str b],6] S=#[.bl false,S,1]:=by have:=Qe (S:=S) (x:=x) (fs:=[a,b]) true;rw[dT0 (by simpa using h)]at this;exact this
theorem Z5(h:(b=.non)\/ ∃(l:Nat)(N:Ch),b=.loc l/\S[l]? =#[N.map MV.str,2]/\x∈N):zQ 2 xC [#[[.str JQ,.str x],6],.val b] S=#[.bl true,S,1]:=by
 refine FZ rfl ?_;show yE _=_;have d:xY [.val (.str IS),.val (.str JQ)] S=.ok _ S:=mZ (by simp);have c:AS (.val (.str JQ)) (.val (.str IS)) S=#[.bl false,S,1]:=by rw[eq_str,dF0 ↑4]
 have a:kY [#[[MV.str JQ,.str x],6]] S=.ok _ S:=rfl;refine lN (zN (ρ':=[#[[.str JQ,.str x],3],some b]) (S':=S) ?_ (zN (ρ':=[#[[.str JQ,.str x],3],some b]) (S':=S) ?_ ?_))
 .unfold jQ;exists 7,HR,AN,d,Z4 S _,a
 .unfold jR;rfl
 .unfold iZ;rcases h with rfl|⟨l,N,rfl,hl,hx⟩
  .exists 7,AN
  .have hi:=mL false hl (tL x) DF;rw[iN0 xF0,dec_is (KI),dT0 hx]at hi;show(BC false _ _ S).bind (λr S=>R.ok _ S)=_;rw[hi];rfl
def Sq(h:wY d)(k:b=.non\/ ∃(l:Nat)(N:Ch),b=.loc l/\S[l]? =#[N.map MV.str,2]/\ ∀x,vn d=some x->x∈N):zQ 2 xC [.val d,.val b] S=#[.bl true,S,1]:=by
 rcases h with⟨x,rfl⟩|⟨v,hv,rfl⟩
 .exact Z5 (k.imp id λ⟨l,N,e,o,j⟩=>(Z3 l N e o (j x (CC x))))
 .exact (by
   refine FZ rfl ?_;show yE _=_;have p:xY [.val (.str IS),.val (.str JQ)] S=.ok _ S:=mZ (by simp);have a:AS (.val (.str IS)) (.val (.str IS)) S=#[.bl true,S,1]:=by rw[eq_str,dT0 rfl]
   have c:kY [#[[MV.str IS,v],6]] S=.ok _ S:=rfl;have m:jQ [#[[.str IS,v],3],some b] S=#[[#[[.str IS,v],3],some b],S,0]:=by unfold jQ;exists 7,Z4 S _
   have n:jR [#[[.str IS,v],3],some b] S=.ok (.ret (.val (.bl true))) S:=by
    unfold jR;rcases hv with⟨i,rfl⟩|⟨x,rfl⟩
    .exists 7,HR,AN,a
    .exists 7,HR,AN,a
   refine lN (zN m ?_);rw[pM n])
theorem Hc: ∀ tms ,(∀d∈tms,wY d)->yG (xF 0) wD gB [none] [] tms S=.ok [] S
 |[],_=>rfl
 |d::tms,h=>Gy rfl (by unfold wD;simp? [Sq (h d mF0) (.inl rfl)];rfl) kE (Hc tms λx m=>h x (mO _ m))
abbrev zDT:MV:=.tup [.str Cu]
theorem C6(h:w≠Cu)(S):QT #[[.str w,a,b,f],6] (.val zDT) S=#[.bl true,S,1]:=by refine HA (k:=false) ?_;show Lc (eqv S zO) (.tp [.str w,a,b,f]) (.tp [.str Cu])=_;rw[EO];unfold rE;rw[show eqv S zO _ _=some _ from FO _ _ _,dF0 h];rfl
inductive FOk(ts:Tk):List (List Nat)->List (List MV)->Prop
 |nil {B}:FOk ts B []
 |same {B a b L} (ha:wY a) (hb:wY b) (va: ∀x,vn a=some x->x∈B) (vb: ∀x,vn b=some x->x∈B) (h:FOk ts B L):FOk ts B ([.str B8,a,b]::L)
 |row {B:Ch} {w:Db} {t ar ky:Int} {tms:R0} {L:Y0} (hw:w=Si\/w=Sj) (ht:0<=t/\t<ts.length) (htb:qF (ts.map tbl) t=some (tbl (ar,ky))) (hl:(tms.length:Int)=ar) (hl2:tms.length<=10) (hT: ∀d∈tms,wY d) (h:FOk ts (B++tms.filterMap vn) L):FOk ts B ([.str w,.int t,.tup tms]::L)
abbrev Hd(f:MV)(ts:Tk)(hd b m:T0):Rho:=[some f,#[ts.map tbl,3],hd,b,m]
theorem He: ∀ tms ,(∀d∈tms,wY d)->yG (xF 0) xH wM [none] [] tms S=.ok ((tms.filterMap vn).map MV.str) S
 |[],_=>rfl
 |d::tms,h=>by
  have m:=He (S:=S) tms λx a=>h x (mO _ a);rcases h d mF0 with⟨x,rfl⟩|⟨v,_,rfl⟩
  .rw[ĝ,CC];exact Rw rfl (by unfold xH;exists 7,HR,Qb) (by unfold wM;exists 7,AN) kE m
  .rw[ĝ,Sa];exact Gy rfl (by unfold xH;exists 7,HR,show AS (.val (.str IS)) (.val (.str JQ)) S=.ok _ S by rw[eq_str,dF0 ↑4]) kE m
section
theorem zDU(a b c d):yC #[[a,b,c,d],6] #[0,5] S=#[a,S,1]:=rfl
theorem i4_1(a b c d):yC #[[a,b,c,d],6] #[1,5] S=#[b,S,1]:=rfl
theorem zDV(a b c d):yC #[[a,b,c,d],6] #[2,5] S=#[c,S,1]:=rfl
theorem zDW(a b c d):yC #[[a,b,c,d],6] #[3,5] S=#[d,S,1]:=rfl
theorem C7(e:0<=k/\k<60): ∀{G}{r},G (Hd (.tup [a,b,c,d]) ts hd bd #[k+1,0]) S=r->zL wN (zL wO G) (Hd (.tup [a,b,c,d]) ts hd bd #[k,0]) S=r:=λh=>by
 refine zN (ρ':=Hd (.tup [a,b,c,d]) ts hd bd #[k+1,0]) (S':=S) ?_ (zN ?_ h)
 .unfold wN;exists 7,rfl
 .unfold wO;simp? [isi_tt,show kY [#[[a,b,c,d],6]] S=.ok _ S from rfl];rw[dF0 #[]];rfl
def Yz(e:0<=k/\k<60){B:Ch}(c:S[lb]? =#[B.map MV.str,2])(j:wY a)(d:wY b)(h: ∀x,vn a=some x->x∈B)(i: ∀x,vn b=some x->x∈B):
  xX (Hd (.tup [.str B8,a,b,f]) ts hd #[lb] #[k,0]) S=#[Hd f ts hd #[lb] #[k+1,0],S,0]:=by
 refine C7 e (zN (ρ':=Hd (.tup [.str B8,a,b,f]) ts hd #[lb] #[k+1,0]) (S':=S) ?_ ?_)
 .unfold wQ;simp? [zDU,i4_1,zDV,eq_str,if_true,Sq j (.inr (Z3 lb B rfl c h)),Sq d (.inr (Z3 lb B rfl c i))];rfl
 .unfold wR;exists 7,zDW
theorem Z6{t:Int}(o:0<=k/\k<60)(j:S[lb]? =#[B.map MV.str,2])(q:↑16<=10000)(r:ts.length<=1000)(hw:w=Si\/w=Sj)(i:0<=t/\t<ts.length)(c:qF (ts.map tbl) t=some (tbl (ar,ky)))(u: tms.length =ar)(n:tms.length<=10)(h: ∀d∈tms,wY d):
  xX (Hd (.tup [.str w,.int t,.tup tms,f]) ts hd #[lb] #[k,0]) S=#[Hd f ts hd #[↑0] #[k+1,0],S++[.lst ((B++tms.filterMap vn).map MV.str)],0]:=by
 have m:=Ĝ vn tms;have a:AS (.val (.str w)) (.val (.str B8)) S=#[.bl false,S,1]:=by rw[eq_str,dF0 (by rcases hw with rfl|rfl<;>decide)]
 have p:xY [.val (.str Si),.val (.str Sj)] S=.ok _ S:=mZ (by simp);refine C7 o (zN (ρ':=Hd (.tup [.str w,.int t,.tup tms,f]) ts hd #[↑0] #[k+1,0]) (S':=S++[.lst ((B++tms.filterMap vn).map MV.str)]) ?_ ?_)
 .unfold wQ;simp? [zDU,zDV,a,p,Z4 S hw,(show zQ 2 gC [#[[.str w,.int t,.tup tms,f],6],#[ts.map tbl,6]] S=#[.bl true,S,1] by
   refine FZ rfl ?_;show yE _=_;have e:yC #[[.str w,.int t,.tup tms,f],6] #[1,5] S=.ok _ S:=rfl;have b:yC #[[.str w,.int t,.tup tms,f],6] #[2,5] S=.ok _ S:=rfl;have v:kY [#[[.str w,.int t,.tup tms,f],6]] S=.ok #[4,5] S:=rfl;have lt:kY [#[ts.map tbl,6]] S=.ok #[ts.length,5] S:=by rw[iA,lM0]
   have s:kY [#[tms,6]] S=.ok _ S:=iA _ _;unfold aL;refine lN (zN (ρ':=[#[[.str w,.int t,.tup tms,f],3],#[ts.map tbl,3]]) (S':=S) ?_ (zN (ρ':=[#[[.str w,.int t,.tup tms,f],3],#[ts.map tbl,3]]) (S':=S) ?_ (zN (ρ':=[#[[.str w,.int t,.tup tms,f],3],#[ts.map tbl,3]]) (S':=S) ?_ ?_)))
   .unfold bU;exists 7,e,v,Pz,Ck
   .unfold bV;simp? [e,b,lt,isi_tt];unfold zAH;simp? [le_int,dT0 i.1,lt,if_true,show XF _ _ S=.ok _ S by rw[show XF #[t,5] #[ts.length,5] S=.ok _ S from rfl,dT0 i.2]];rfl
   .unfold bW;simp? [e,b,s,ix_tup (S:=S) c,show yC (.val (tbl (ar,ky))) #[0,5] S=.ok _ S from rfl,ne_int,u];rfl
   .unfold bX;simp? [b,HS,show tms.length<1000000 by lia];rw[show AM 1 [] _=[none]from rfl,Hc (S:=S) tms h];rfl),HS,show tms.length<1000000 by lia,fT,iF,Bool.not_true];rw[show AM 1 [] _=[none]from rfl,He tms h];simp? [show yW _ (.new _) S=#[(B++tms.filterMap vn).map MV.str,S,2] by rw[ï];exact ER (uW j) rfl (fits (by rw[lM0,lM0];lia))]
 .unfold wR;exists 7,zDW
theorem NS(c:ts.length<=1000): ∀ L  B  d (k:Int) m  S ,FOk ts B L->S[d]? =#[B.map MV.str,2]->0<=k->k+L.length<=60->↑16+10 * L.length<=10000->
  ∃b' k' T,jY xQ xX (L.length+1+m) (Hd (GC L) ts hd #[d] #[k,0]) S=#[Hd (GC []) ts hd b' k',S++T,0]
 |[],B,d,k,m,S,_,hS,h0,hk,hb=>⟨_,_,[],by rw[aN,show([]:Y0).length+1+m=m+1 by simp;lia];exact DA (by unfold xQ;exists 7,show xY [.val (.str Cu)] S=.ok _ S from mZ (by simp),fm_yes)⟩
 |xs::L,B,d,k,m,S,h,hS,h0,hk,hb=>by
  rw[lC0]at hk hb;have e:(xs::L).length+1+m=(L.length+1+m)+1:=by rw[lC0];lia
  rw[e]
  cases h with
  |@same _ a b _ ha hb' va vb h=>
   obtain⟨b',k',T,i⟩:=NS (hd:=hd) c L B d (k+1) m S h hS #[] #[] #[];refine⟨b',k',T,?_⟩;show jY _ _ _ (Hd (.tup [.str B8,a,b,GC L]) ts hd _ _) S=_;rw[iT (S1:=S) (by unfold xQ;exists 7,show xY [.val _] S=.ok _ S from mZ (by simp),C6 (w:=B8) ↑4) (Yz ⟨h0,by lia⟩ hS ha hb' va vb)];exact i
  |@row _ w t ar ky tms _ hw ht htb hl hl2 hT h=>
   have j:=Ĝ vn tms;obtain⟨b',k',T,i⟩:=NS (hd:=hd) c L _ ↑0 (k+1) m _ h (zM _ _) #[] #[] (by rw[lA];lia);refine⟨b',k',[.lst ((B++tms.filterMap vn).map MV.str)]++T,?_⟩;show jY _ _ _ (Hd (.tup [.str w,.int t,.tup tms,GC L]) ts hd _ _) S=_;rw[iT (S1:=S) (by unfold xQ;simp? [show xY [.val (.str Cu)] S=#[zDT,S,1] from mZ (by simp),C6 (w:=w) (by rcases hw with rfl|rfl<;>decide)]) (Z6 ⟨h0,by lia⟩ hS #[] c hw ht htb hl hl2 hT), <-aA];exact i
end
theorem zDX(a:ts.length<=1000)(h:FOk ts hs L)(d:L.length<=59)(c:hs.length<=100)(S):zQ 3 bM [.val (GC L),#[ts.map tbl,6],#[hs.map MV.str,6]] S=#[.bl true,S,1]:=by
 obtain⟨b,i,T,hw⟩:=NS a L hs ↑0 1 (10000 - (L.length+1)) _ h (zM _ _) ↑4 #[] #[];rw[show L.length+1+_=10000 by lia]at hw;refine nA (T:=[.lst #[hs,8]]++T) rfl ?_ (Ee _ _) (λl e=>by cases e);show yE _=_;refine lN (zN (ρ':=Hd _ ts _ _ none) ?_ (zN rfl (zN (by unfold dS;exact hw) ?_)))
 .unfold dR;rfl
 .rw[aA];rfl
def Hf:x∈AO tms↔ ∃d∈tms,vn d=some x:=by unfold AO;rw[iB];simp
structure SI(t:Int)(s:PS)(E:Ch):Prop where
 n: ∀x∈s.1,x∈E\/MV.tup [.str JQ,.str x]∈s.2.1
 c: ∀d∈s.2.1,wY d
 m: ∀d∈s.2.2, ∃j c,d=zEP (cV t j) c/\cV t j∈s.2.1/\wY c/\ ∀x,vn c=some x->x∈s.1
def SI.stp{c:MV}(h:SI t s E)(q:wY c):SI t (stp t i c s) E/\(∀x∈s.1,x∈(stp t i c s).1)/\ ∀x,vn c=some x->x∈(stp t i c s).1:=by
 unfold L2.M.My.stp;by_cases hw:VN s.1 c=true
 .rw[iP hw];refine⟨⟨λx b=>?_,λd a=>?_,λd a=>?_⟩,λx b=>õ _ b,λx b=>by rw[b];simp⟩
  .rcases á.mp b with b|b
   .exact(h.n x b).imp id λh=>õ _ h
   .rw[mS.mp b];rcases q with⟨y,rfl⟩|⟨v,_,rfl⟩
    .rw[CC];exact .inr (by simp)
    .rw[VO]at hw;cases hw
  .rcases á.mp a with a|a
   .exact h.c d a
   .rw[mS.mp a];exact q
  .refine(h.m d a).g λj k e o r p=>?_;exact ZB j k e (õ _ o) r (λx b=>õ _ (p x b))
 .rw[iN0 hw];have u: ∀x,vn c=some x->x∈s.1:=λx b=>by unfold VN at hw;rw[b]at hw;simpa using hw
  refine⟨⟨λx b=>(h.n x b).imp id λh=>õ _ h,λd a=>?_,λd a=>?_⟩,λx b=>b,u⟩
  .rcases á.mp a with a|a
   .exact h.c d a
   .rw[mS.mp a];exact .inl ⟨_,rfl⟩
  .rcases á.mp a with a|a
   .refine(h.m d a).g λj k e o r p=>?_;exact ZB j k e (õ _ o) r p
   .rw[mS.mp a];exact ZB i c rfl (by simp) q u
theorem SI.stps: ∀ m  i  s ,(∀c∈m,wY c)->SI t s E->SI t (stps t i m s) E/\(∀x∈s.1,x∈(stps t i m s).1)/\ ∀c∈m, ∀x,vn c=some x->x∈(stps t i m s).1
 |[],_,s,_,h=>⟨h,λ_ q=>q,by simp⟩
 |c::m,i,s,hc,h=>by
  obtain⟨u,z,v⟩:=h.stp (hc c mF0);obtain⟨e,b,j⟩:=SI.stps m _ _ (λd a=>hc d (mO _ a)) u;refine⟨e,λx q=>b x (z x q),λd a x q=>?_⟩;rcases mC.mp a with rfl|a
  .exact b x (v x q)
  .exact j d a x q
structure AtQ(ts:Tk)(ky:Int)(a:Int×List MV):Prop where
 t:0<=a.1/\a.1<ts.length
 tb:qF (ts.map tbl) a.1=some (tbl (a.2.length,ky))
 k:0<=ky
 tm: ∀d∈a.2,wY d
 ln:a.2.length<=10
theorem ZU(c:FOk ts B L): ∀(m:R0),(∀d∈m, ∃a b,d=zEP a b/\wY a/\wY b/\(∀x,vn a=some x->x∈B)/\ ∀x,vn b=some x->x∈B)->FOk ts B (m.map C5++L)
 |[],_=>c
 |d::m,h=>by refine(h d mF0).j λa b g=>g.h λi q z u v=>?_;subst i;exact .same q z u v (ZU c m λx e=>h x (mO _ e))
theorem Ss(A:AtQ ts ky a)(Q: ∀x∈N,x∈B)(J: ∀G,(∀x∈B,x∈G)->(∀x∈AO a.2,x∈G)->FOk ts G L):FOk ts B ((tM N a.1 ky a.2).map C5++L):=by
 obtain⟨t,b⟩:=a;obtain⟨⟨D,H⟩,I,k,F,U⟩:=A;dsimp only at D H I F U J ⊢;obtain⟨j,rfl⟩: ∃j:Nat,ky=j:=⟨ky.toNat,by lia⟩
 unfold tM VT ZR;rw[DG,aV];have w: ∀d∈b.take j,wY d:=λd o=>F d (þ o);have y: ∀d∈b.drop j,wY d:=λd o=>F d (Ļ o);obtain⟨q,v⟩: ∃q,q=N++AO (b.take j):=⟨_,rfl⟩
 rw[<-v];obtain⟨z,X,M⟩:=SI.stps _ 0 (q,[],[]) y ⟨λx h=>.inl h,by simp,by simp⟩;have p:=(CF t (b.drop j) 0 (q,[],[])).1;obtain⟨s,hs⟩: ∃s,s=stps t 0 (b.drop j) (q,[],[]):=⟨_,rfl⟩
 rw[<-hs]at z X M p ⊢;have P:(b.take j).length+(b.drop j).length=b.length:=by rw[<-lA,List.take_append_drop]
 have E: ∀d∈(b.drop j).map (JR q),wY d:=λd o=>by
  refine(mM0.mp o).a λc T g=>?_;subst g;unfold JR;split
  .exact .inl ⟨_,rfl⟩
  .exact y c T
 refine .row (.inl rfl) ⟨D,H⟩ I (by rw[lA,lM0,P]) (by rw[lA,lM0];lia) (λd o=>(á.mp o).elim (w d) (E d)) ?_;refine .row (.inr rfl) ⟨D,H⟩ I (by rw[lA,p];simp only[ç,Į];rw[P]) (by rw[lA,p];simp only[ç];lia) (λd o=>(á.mp o).elim (w d) (z.c d)) ?_;obtain⟨u,r⟩: ∃u,u=B++(b.take j++(b.drop j).map (JR q)).filterMap vn++(b.take j++s.2.1).filterMap vn:=⟨_,rfl⟩
 rw[<-r];have O: ∀x∈B,x∈u:=λx h=>by rw[r];exact õ _ (õ _ h)
 have C: ∀d∈b.take j++s.2.1, ∀x,vn d=some x->x∈u:=λd o x h=>by rw[r];exact ð _ (mem_filterMap.mpr ⟨d,o,h⟩)
 have K: ∀x∈s.1,x∈u:=λx h=>by
  rcases z.n x h with h|h
  .rw[v]at h;rcases á.mp h with h|h
   .exact O x (Q x h)
   .refine(Hf.mp h).a λd o e=>?_;exact C d (õ _ o) x e
  .exact C _ (ð _ h) x (CC x)
 refine ZU (J u O λx h=>?_) s.2.2 λd o=>?_
 .refine(Hf.mp h).a λd o e=>?_;rw[<-List.take_append_drop j b]at o;rcases á.mp o with o|o
  .exact C d (õ _ o) x e
  .exact K x (M d o x e)
 .refine(z.m d o).g λi c R S W Y=>?_;subst R;exact YD _ _ rfl (.inl ⟨_,rfl⟩) W (λx h=>C _ (ð _ S) x h) (λx h=>K x (Y x h))
theorem Hg: ∀ d  N B ,(∀a∈d,AtQ ts (ky a) a)->(∀x∈N,x∈B)->FOk ts B ((CG ky N d).map C5)
 |[],_,_,_,_=>.nil
 |a::d,N,B,hA,hN=>by show FOk ts B ((tM N a.1 _ a.2++CG ky _ d).map C5);rw[ï];exact Ss (hA a mF0) hN λv q z=>Hg d _ v (λb u=>hA b (mO _ u)) λx m=>(á.mp m).elim (λm=>q x (hN x m)) (z x)
def zAN(ts:Tk)(a:Int×List MV):Int:=((qF ts a.1).getD (0,0)).2
def Z7(h:qF xs i=some x):i<xs.length:=by refine(Option.bind_eq_some_iff.mp h).a λj a _=>?_;exact(SO a).2.2.2
structure Qn(ts:Tk)(hs:Ch)(as:U0):Prop where
 q:QOk ts as
 h:hs.length<=2
 t:ts.length<=4
 x: ∃xs:List (List Nat),(∀x∈xs,x.length<=100)/\ ∀a∈as, ∀d∈a.2,TmIn xs d
def Qn.at(Q:Qn ts hs as)(r:a∈as):AtP ts (zAN ts a) a/\AtQ ts (zAN ts a) a:=by obtain⟨xs,u,B⟩:=Q.x;exact (by
  have A:=(Q.q.at' a r)
  have s:=(Q.q.pos a r)
  have w:=(B a r)
  have C:=Q.t
  obtain⟨p,i,m⟩:=A.tb;obtain⟨E,c,D⟩:=A.wd;rw[i]at c;cases c;have z:zAN ts a=p.2:=by unfold zAN;rw[i];rfl
  have o:=Z7 i;have F:=A.len;have h:qF (ts.map tbl) a.1=some (tbl (p.1,p.2)):=by rw[vL,i];rfl
  rw[z];obtain⟨j,k⟩: ∃j:Nat,p.2=j:=⟨p.2.toNat,by lia⟩
  have n: ∀d∈a.2,Sh d:=λd b=>⟨A.tm d b,λx e=>by
   rcases w d b with⟨y,hy,rfl⟩|⟨v,_,rfl⟩
   .rw[CC]at e;cases e;exact u _ hy
   .rw[Sa]at e;cases e⟩
  refine⟨⟨⟨s,by lia⟩,⟨p.1,h⟩,?_,?_,?_,?_,A.tm,by lia⟩,⟨⟨s,o⟩,by rw[D];exact h,m,A.tm,by lia⟩⟩
  .rw[k];intro d b;rw[VT]at b;exact A.tm d (þ b)
  .rw[k];intro d b;rw[ZR,aV]at b;exact n d (Ļ b)
  .rw[k,VT,DG,lT];lia
  .rw[k,ZR,aV,ÿ];lia)
section
variable{ts:Tk}
theorem Zb(d:↑10<=4)(c: ∀a∈as,0<=a.1)(b:KM [] as 0=some j)(S):xW 2 yB [#[ts.map tbl,6],.val (qM hs as)] S=.exc "Double" (NQ j) S:=by
 refine VI (T:=[]) rfl ?_;rw[aN];show yE (wZ (SC _ _ none none none none none none) S)=_;have e:yM (SC ↑17 (qM hs as) none none none none none none) S=.exc "Double" (NQ j) S:=by unfold yM;simp? [Rq d c b];rfl
 unfold wZ;rw[KL e];rfl
end
section
def SD(a:c∈XNS)(h:S[l]? =some (.ins c fs))(d):tW XNS d #[l,1] S=#[.bl (decide (c=d)),S,1]:=by unfold tW;dsimp only;rw[h];dsimp only;rw[iP a]
def C9(a:c∈XNS)(h:S[l]? =some (.ins c fs)):Oa XNS #[l,1] S=#[.bl true,S,1]:=by unfold Oa;dsimp only;rw[h];dsimp only;rw[iP a]
end
noncomputable abbrev cq(c x:Str):MV:=.bl (decide (c=x))
abbrev C4(c:Str):List MV:=[cq c "Double",cq c "Ring",cq c "NotPlain",cq c "TooGreat"]
abbrev C8(c:Str):List MV:=[cq c "NoText",cq c "NoPlace",cq c "NoTable",cq c "NoRule"]
abbrev zDY(c:Str):List MV:=[cq c "NoRow",cq c "Twice",cq c "NoQuestion",cq c "TooWide"]
theorem Hh(u:c∈XNS)(j:C4 c++C8 c++zDY c=(List.range 12).map λk=>MV.bl (decide (k=i)))(hi:(List.range 12).filter (λk=>decide (k=i))=[i])(h:S[n]? =some (.ins c fs)):zQ 1 gA [#[n,1]] S=#[[zC i],S,2]:=by
 have H: ∀(L:Sto)(e:Str),tW XNS e #[n,1] (S++L)=#[cq c e,S++L,1]:=λL e=>SD u (aQ h) e;have y: ∀e:Str,tW XNS e #[n,1] S=#[cq c e,S,1]:=λe=>SD u h e;have w: ∀a,(S++[a]).length=↑0+1:=λa=>by rw[lA];rfl
 have z: ∀a b,(S++[a,b]).length=↑0+2:=λa b=>by rw[lA];rfl
 have C:qT [#[n],none] S=#[[#[n],#[↑0]],S++[.lst (C4 c)],0]:=by unfold qT;exists 7,y,Yp
 have B:yW #[↑0,1] (.new (C8 c)) (S++[.lst (C4 c)])=#[C4 c++C8 c,S++[.lst (C4 c)],2]:=ER (uW (zM _ _)) rfl (fits (show 4+4<=1000000 by decide));have D:qU [#[n],#[↑0]] (S++[.lst (C4 c)])=#[[#[n],#[↑0+1]],S++[.lst (C4 c),.lst (C4 c++C8 c)],0]:=by unfold qU;simp? [H,Yp,B,w,aA];rfl
 have v:yW #[↑0+1,1] (.new (zDY c)) (S++[.lst (C4 c),.lst (C4 c++C8 c)])=#[C4 c++C8 c++zDY c,S++[.lst (C4 c),.lst (C4 c++C8 c)],2]:=ER (uW (Ru _ _ _)) rfl (fits (show 8+4<=1000000 by decide));have s:qV [#[n],#[↑0+1]] (S++[.lst (C4 c),.lst (C4 c++C8 c)])=#[[#[n],#[↑0+2]],S++[.lst (C4 c),.lst (C4 c++C8 c),.lst (C4 c++C8 c++zDY c)],0]:=by unfold qV;simp? [H,Yp,v,z];rw[aA];rfl
 obtain⟨T,r⟩: ∃T:Sto,T=[.lst (C4 c),.lst (C4 c++C8 c),.lst (C4 c++C8 c++zDY c)]:=⟨_,rfl⟩
 have E:(S++T)[↑0+2]? =some (.lst ((List.range 12).map λk=>MV.bl (decide (k=i)))):=by rw[<-j,r];exact (by simp)
 rw[<-r]at s
 have m:yG (xF 0) dF iY [none,#[↑0+2]] [] ((List.range 12).map zC) (S++T)=.ok [zC i] (S++T):=by
  have:=aP (f:=zC) (g:=zC) (p:=λk=>decide (k=i)) (gf:=xF 0) (cf:=dF) (ef:=iY) (ρb:=[none,#[↑0+2]]) (yX (S++T)) (ds:=List.range 12) λk j=>(Z1 ([some (zC k),#[↑0+2]]) rfl (by have o:yC #[↑0+2,1] (.val (zC k)) (S++T)=#[.bl (decide (k=i)),S++T,1]:=aH E (iC (by rw[ë,List.getElem?_range (ø.mp j)];rfl));unfold dF;simp? [o]) rfl)
  rw[this,hi];rfl
 refine gF (T:=T) rfl ?_ (kT λd A=>by rw[mS.mp A];exact mY _ _);show yE (vI [#[n],none] S)=_;unfold vI;rw[zD C,zD D,zD s];unfold BW;have q:kG [#[12,5]] (S++T)=.ok ⟨(List.range 12).map zC,[]⟩ (S++T):=ND (n:=12) ↑4 _;simp? [q,show((List.range 12).map zC).length<1000000 by decide,show∀a b:Option MV,AM 1 [1] [a,b]=[none,b]from λ_ _=>rfl,m];rfl
noncomputable abbrev NT:List Nat:=[116,111,108,100]
noncomputable abbrev DO:List Nat:=[114,101,102,117,115,101,100]
abbrev Ai(ts:Tk)(q:MV)(f e:T0):Rho:=[#[ts.map tbl,3],some q,f,e]
section
variable{ts:Tk}
theorem Zc(hd:pd d=true)(h:xW 2 yB [#[ts.map tbl,6],.val q] S=#[d,S,1]):zQ 2 xR [#[ts.map tbl,6],.val q] S=.ok #[[.str NT,d],6] S:=by refine iS rfl ?_ (AG (by rw[gT];simp[UX,tL,hd])) (λl=>by simp);show yE _=_;refine lN (zN (ρ':=Ai ts q _ none) rfl (zN (ρ':=Ai ts q (some _) none) ?_ rfl));unfold gN QJ;simp? [yO,h];rfl
end
def E1(S):xY [.val (.str a),.new ds,.val (.bl b)] S=.ok #[[.str a,.loc ↑0,.bl b],6] (S++[.lst ds]):=iP (fits (show 3<=1000000 by decide))
abbrev zAO(l j:Nat):MV:=.tup [.str DO,.loc l,.bl true,zC j,.bl false]
abbrev Cw(l r:Nat):MV:=.tup [.str DO,.loc l,.bl true,.loc r]
def ZV:("Ring":Str)∈XNS:=by decide
def zDZ(h:S[n]? =some (.ins "Double" fs)):zQ 1 gA [#[n,1]] S=#[[zC 0],S,2]:=Hh ZO rfl ↑4 h
def zEA(h:S[n]? =some (.ins "Ring" fs)):zQ 1 gA [#[n,1]] S=#[[zC 1],S,2]:=Hh ZV rfl ↑4 h
theorem zEB(h:S[l]? =some (.ins "Ring" [("ring",.loc r)])):YQ XNS "ring" #[l,1] S=.ok #[r,1] S:=by unfold YQ;dsimp only;rw[h];dsimp only;rfl
section
variable{ts:Tk}
theorem Su(h:xW 2 yB [#[ts.map tbl,6],.val q] S=.exc "Double" (NQ j) S):zQ 2 xR [#[ts.map tbl,6],.val q] S=#[zAO (↑0+1) j,S++[.ins "Double" (NQ j),.lst [zC 0]],1]:=by
 obtain⟨e,c⟩: ∃e:Sto,e=S++[.ins "Double" (NQ j)]:=⟨_,rfl⟩
 obtain⟨d,i⟩: ∃d:Sto,d=S++[.ins "Double" (NQ j),.lst [zC 0]]:=⟨_,rfl⟩
 have o:e[↑0]? =some (.ins "Double" (NQ j)):=by rw[c];exact zM _ _
 have n:d[↑0]? =some (.ins "Double" (NQ j)):=by rw[i];simp
 have k:e.length=↑0+1:=by rw[c,lA];rfl
 have m:e++[.lst [zC 0]]=d:=by rw[i,c,aA];rfl
 have p:=E1 (a:=DO) (ds:=[zC 0]) (b:=true) e;rw[k,m]at p
 have s:nF (Ai ts q (some .non) #[↑0]) e=#[Ai ts q (some (zAO (↑0+1) j)) #[↑0],d,0]:=by
  unfold nF;refine zN (ρ':=Ai ts q #[[.str DO,.loc (↑0+1),.bl true],3] #[↑0]) (S':=d) ?_ (zN (ρ':=Ai ts q #[[.str DO,.loc (↑0+1),.bl true],3] #[↑0]) (S':=d) ?_ ?_)
  .unfold oO;exists 7,zDZ o,C9 ZO o,p
  .unfold oP;simp? [SD ZO n];rfl
  .unfold oQ;simp? [SD ZO n,zDO n,Ck,tup2,Đ,rP (S:=d) (x:=[.str DO,.loc (↑0+1),.bl true]) (y:=[zC j,.bl false]) _];rfl
 have r:gN (Ai ts q (some .non) none) S=#[Ai ts q (some (zAO (↑0+1) j)) none,d,0]:=by unfold gN QJ;simp? [yO,h];unfold OS;dsimp only;rw[iP ZO, <-c];simp only[set_cons_zero,set_cons_succ];rw[s];rfl
 refine RY rfl ?_ (λl z=>by cases z) (λz=>?_)
 .show yE _=_;unfold sG;exact lN (zN (S':=S) rfl (zN r (by rw[<-i];rfl)))
 .have:=z;simp[lo,DI]at this
  lia
theorem Kr(h:xW 2 yB [#[ts.map tbl,6],.val q] S=.exc "Ring" [("ring",.loc (↑0+1))] (S++[.lst [zC a,zC b],.lst [zC a,zC b]])):zQ 2 xR [#[ts.map tbl,6],.val q] S=#[Cw (↑0+3) (↑0+1),S++[.lst [zC a,zC b],.lst [zC a,zC b],.ins "Ring" [("ring",.loc (↑0+1))],.lst [zC 1]],1]:=by
 obtain⟨c,j⟩: ∃c:Sto,c=S++[.lst [zC a,zC b],.lst [zC a,zC b]]:=⟨_,rfl⟩
 have o:c.length=↑0+2:=by rw[j,lA];rfl
 rw[<-j]at h;obtain⟨i,d⟩: ∃i:Sto,i=c++[.ins "Ring" [("ring",.loc (↑0+1))]]:=⟨_,rfl⟩
 obtain⟨e,k⟩: ∃e:Sto,e=i++[.lst [zC 1]]:=⟨_,rfl⟩
 have n:i[c.length]? =some (.ins "Ring" [("ring",.loc (↑0+1))]):=by rw[d];exact zM _ _
 have p:e[c.length]? =some (.ins "Ring" [("ring",.loc (↑0+1))]):=by rw[k];exact aQ n
 have m:i.length=↑0+3:=by rw[d,lA,o];rfl
 have r:=E1 (a:=DO) (ds:=[zC 1]) (b:=true) i;rw[m, <-k]at r
 have v:nF (Ai ts q (some .non) #[c.length]) i=#[Ai ts q (some (Cw (↑0+3) (↑0+1))) #[c.length],e,0]:=by
  unfold nF;refine zN (ρ':=Ai ts q #[[.str DO,.loc (↑0+3),.bl true],3] #[c.length]) (S':=e) ?_ (zN (ρ':=Ai ts q (some (Cw (↑0+3) (↑0+1))) #[c.length]) (S':=e) ?_ ?_)
  .unfold oO;exists 7,zEA n,C9 ZV n,r
  .unfold oP;simp? [SD ZV p,zEB p,Đ,show∀(x:MV)(Z:Sto),xY [.val x] Z=.ok #[[x],6] Z from λ_ _=>mZ (by simp),rP (S:=e) (x:=[.str DO,.loc (↑0+3),.bl true]) (y:=[.loc (↑0+1)]) (fits (show 3+1<=1000000 by decide))];rfl
  .unfold oQ;simp? [SD ZV p];rfl
 have u:gN (Ai ts q (some .non) none) S=#[Ai ts q (some (Cw (↑0+3) (↑0+1))) none,e,0]:=by unfold gN QJ;simp? [yO,h];unfold OS;dsimp only;rw[iP ZV, <-d];simp only[set_cons_zero,set_cons_succ];rw[v];rfl
 have s:e=S++[.lst [zC a,zC b],.lst [zC a,zC b],.ins "Ring" [("ring",.loc (↑0+1))],.lst [zC 1]]:=by rw[k,d,j];simp
 refine RY rfl ?_ (λl z=>by cases z) (λz=>?_)
 .show yE (sG (Ai ts q none none) S)=_;unfold sG;exact lN (zN (ρ':=Ai ts q (some .non) none) (S':=S) rfl (zN u (by rw[<-s];rfl)))
 .have:=z;simp[lo,DI]at this
  lia
end
theorem aW: ∀{ds},(∀d∈ds,KH d<=n)->OY ds<=n
 |[],_=>by simp[OY]
 |d::ds,h=>by
  have m:=h d mF0;have b:=aW λx a=>h x (mO _ a);rw[OY]
  lia
def Cy(h:wY d):KH d<=1:=by
 rcases h with⟨x,rfl⟩|⟨v,hv,rfl⟩
 .rw[sH];exact Ġ (aW λd a=>by simp only[mC,nM,or_false]at a;rcases a with rfl|rfl<;>rw[dI]<;>exact à _)
 .rw[sH]
  exact Ġ (aW λd a=>by
   simp only[mC,nM,or_false]at a;rcases a with rfl|rfl
   .rw[dI];exact à _
   .rcases hv with⟨i,rfl⟩|⟨x,rfl⟩
    .rw[sI];exact à _
    .rw[dI];exact à _)
theorem Z9(h:FOk ts B X):KH (GC X)<=X.length+3:=by
 induction h with
 |nil=>
  show KH (.tup [.str Cu])<=_;exact í (Ġ (aW λd c=>by rw[mS.mp c,dI];exact à _)) (by simp)
 |@same B a b L ha hb _ _ _ ih=>
  show KH (.tup [.str B8,a,b,GC L])<=_;rw[lC0];have e:=Cy ha;have i:=Cy hb;refine í (Ġ (aW (n:=L.length+3) λd c=>?_)) #[];simp only[mC,nM,or_false]at c;rcases c with rfl|rfl|rfl|rfl
  .rw[dI];lia
  .lia
  .lia
  .exact ih
 |@row B w t ar ky tms L _ _ _ _ _ hT _ ih=>
  show KH (.tup [.str w,.int t,.tup tms,GC L])<=_;rw[lC0];refine í (Ġ (aW (n:=L.length+3) λd c=>?_)) #[];simp only[mC,nM,or_false]at c;rcases c with rfl|rfl|rfl|rfl
  .rw[dI];lia
  .rw[sI];lia
  .rw[sH];exact í (Ġ (aW λd c=>Cy (hT d c))) #[]
  .exact ih
theorem Ks{ts:Tk}{a:Int×List MV}(d:0<=ky)(c:a.2.length<=4)(N):(tM N a.1 ky a.2).length<=6:=by
 obtain⟨j,rfl⟩: ∃j:Nat,ky=j:=⟨ky.toNat,by lia⟩
 have h:=(CF a.1 (ZR a.2 (j:Int)) 0 (N++AO (VT a.2 (j:Int)),[],[])).2;have b:(ZR a.2 (j:Int)).length<=4:=by rw[ZR,aV,ÿ];lia
 unfold tM;simp only[lA,lC0,ç]at h ⊢
 lia
theorem SE{ts:Tk}: ∀ d  N ,(∀a∈d,0<=ky a/\a.2.length<=4)->(CG ky N d).length<=6 * d.length
 |[],_,_=>by simp[CG]
 |a::d,N,h=>by
  have:=Ks (ts:=ts) (h a mF0).1 (h a mF0).2 N;have e:=SE (ts:=ts) d (N++AO a.2) λb c=>h b (mO _ c);show(tM N a.1 _ a.2++CG ky _ d).length<=_;rw[lA,lC0]
  lia
theorem Zd(h:FOk ts B X)(c:pd (GC X)=true)(e:X.length<=24)(S):QT #[[.str NT,GC X],6] #[[.str NT,GC X],6] S=#[.bl false,S,1]:=by
 have j:=Z9 h
 have i:KH (.tup [.str NT,GC X])<=28:=by
  refine Ġ (aW λd a=>?_);simp only[mC,nM,or_false]at a;rcases a with rfl|rfl
  .rw[dI];lia
  .lia
 have b:pd (.tup [.str NT,GC X])=true:=by rw[gT];simp[UX,tL,c]
 have:=HA (NA (S:=S) _ b b (by unfold zO;lia));rw[dT0 rfl]at this;exact this
def Sv(d:S[a]? =#[ds,2])(c:S[b]? =#[ds,2])(n)(h:(rE (eqv S n) ds ds).map (λbs=>bs.all id)=some true):eqv S (n+1) (.loc a) (.loc b)=some true:=by show(OJ S _).bind _=_;rw[show OJ S #[a,1]=some _ from show(cE S _).map Vw.ls=_ by rw[nB d];rfl];show(OJ S _).bind _=_;rw[show OJ S #[b,1]=some _ from show(cE S _).map Vw.ls=_ by rw[nB c];rfl];show Lc _ (.ls ds) (.ls ds)=_;rw[TU,iP rfl];exact h
def Cz(d:S[a]? =#[[zC i],2])(c:S[b]? =#[[zC i],2])(n):eqv S (n+2) (.loc a) (.loc b)=some true:=Sv d c _ (by unfold rE rE;rw[show eqv S _ _ _=some _ from lR _ _ _,dT0 rfl];rfl)
def Sw(d:S[a]? =#[[zC i,zC j],2])(c:S[b]? =#[[zC i,zC j],2])(n):eqv S (n+2) (.loc a) (.loc b)=some true:=Sv d c _ (by unfold rE rE rE;rw[show eqv S _ _ _=some _ from lR _ _ _,dT0 rfl,show eqv S _ _ _=some _ from lR _ _ _,dT0 rfl];rfl)
theorem Ze(c:S[k]? =#[[zC 1],2])(d:S[k']? =#[[zC 1],2])(b:S[r]? =#[[zC i,zC j],2])(a:S[r']? =#[[zC i,zC j],2]):QT (.val (Cw k r)) (.val (Cw k' r')) S=#[.bl false,S,1]:=by refine HA (k:=true) ?_;show Lc (eqv S zO) (.tp [.str DO,.loc k,.bl true,.loc r]) (.tp [.str DO,.loc k',.bl true,.loc r'])=_;rw[EO];unfold rE rE rE rE rE;rw[show eqv S zO _ _=some _ from FO _ _ _,show eqv S zO _ _=some true from Cz c d _,show eqv S zO _ _=some true from UD _ _ _,show eqv S zO _ _=some true from Sw b a _];rfl
theorem Sx(h:S[l]? =#[ds,2]):iG [#[l,1],.val (.typ "list")] S=#[.bl true,S,1]:=by
 have e:GX S #[l,1]=some "list":=by unfold GX;dsimp only;rw[nB h];rfl
 unfold iG;dsimp only;rw[e];rfl
abbrev IR(r l:Nat)(n:Nat)(k:T0):Rho:=[#[r],#[l],some (zC n),k]
section
variable{P:List Pr}
theorem Hi(c:Z[r]? =#[ds,2])(hd:↑12=2)(j:Z[l]? =#[P.map pD,2])(p:k<2)(h:ds[k]? =some (zC x))(m:ds[(k+1) % 2]? =some (zC y))(o:x<n)(i:(x,y)∈P):jS (IR r l n (some (zC k))) Z=#[IR r l n (some (zC k)),Z,0]:=by
 have d:yC _ _ Z=.ok _ Z:=aH c (iC h);have e:yC _ _ Z=.ok _ Z:=aH c (iC m);have a:=mL true j (NG [(x,y)] (pD (x,y)) (by simp)).1 (NG P);rw[dT0 (Cp.mpr i)]at a;have b:kY [#[r,1]] Z=.ok #[2,5] Z:=by rw[rQ c,hd];rfl
 refine zN (ρ':=IR r l n (some (zC k))) (S':=Z) ?_ ?_
 .unfold qW;simp? [d,Pz,Ck];unfold zAH;simp? [le_int,dT0 (show(0:Int)<=(x:Int) by lia),if_true,show XF (.val (zC x)) _ Z=.ok _ Z by rw[show XF _ (.val (zC n)) Z=.ok _ Z from rfl,dT0 #[]]];rfl
 .unfold qX;simp? [d,b,mod_lit (show _<2 by decide),show((k:Int)+1) % 2=(((k+1) % 2:Nat):Int) by lia,e,tup2,show BC true #[[zC x,zC y],6] _ Z=.ok _ Z from a];rfl
end
theorem Sy{a:Nat}(h:a≠b):Ff [ a , b ]=2:=by
 have d: ∀k,Lf k (rF (valZ [(a:Int),(b:Int)]) 0)=false:=λ_=>rfl
 have c:decide (valZ [(a:Int),_] 1=valZ [_,(b:Int)] 0)=false:=dF0 λe=>by
  have:(Sum.inl (b:Int):Key)=Sum.inl (a:Int):=e;injection this with this
  lia
 show(rF _ (0+1+1)).length=2;rw[YC,YB,show valZ [_,_] _=valZ [_,_] 1 from rfl,c];rfl
theorem zEC{P:List Pr}(o:S[r]? =#[[zC a,zC b],2])(j:a≠b)(z:a<n)(q:b<n)(p:(a,b)∈P)(v:(b,a)∈P):zQ 3 cA [#[r,1],.new (P.map pD),.val (zC n)] S=#[.bl true,S,1]:=by
 obtain⟨Z,h⟩: ∃Z,Z=S++[MO.lst (P.map pD)]:=⟨_,rfl⟩
 have s:zP [#[r,1],.new (P.map pD),.val (zC n)] S=([.loc r,.loc ↑0,zC n],Z):=by rw[h];rfl
 suffices y:cA [.loc r,.loc ↑0,zC n] Z=.ok _ Z from nA rfl (by rw[s, <-h];exact y) (Ee _ _) (λl e=>by cases e);show yE (qY (IR r ↑0 n none) Z)=_;have c:Z[r]? =#[[zC a,zC b],2]:=by rw[h];exact aQ o
 have m:Z[↑0]? =#[P.map pD,2]:=by rw[h];exact zM _ _
 have u:jS _ Z=_:=Hi (n:=n) c rfl m (k:=0) ↑4 rfl rfl z p;have w:jS _ Z=_:=Hi (n:=n) c rfl m (k:=1) ↑4 rfl rfl q v;have i:MT [#[r,1]] Z=.ok #[2,5] Z:=by unfold MT;dsimp only;rw[nB c];show R.ok _ Z=_;rw[Sy j];rfl
 unfold qY;refine lN (zN (ρ':=IR r ↑0 n none) (S':=Z) ?_ (zN (ρ':=IR r ↑0 n (some (zC 1))) (S':=Z) ?_ rfl))
 .unfold uE;have d:kY [#[r,1]] Z=.ok #[2,5] Z:=rQ c;simp? [Sx c,d,i,Bool.not_true,fT,iF,show XF #[2,5] #[2,5] Z=#[.bl false,Z,1] from rfl]
 .unfold uF;simp? [rQ c,show kG [#[([zC a,zC b].length:Int),5]] Z=.ok ⟨(List.range 2).map zC,[]⟩ Z from ND (n:=2) ↑4 Z];show jK (xF 3) jS [] [zC 0,zC 1] _ Z=_;rw[zW (S':=Z) rfl u kE,zW (S':=Z) rfl w kE];rfl
theorem q_pd(h: ∀a∈as, ∀d∈a.2,wY d):pd (qM hs as)=true:=by
 have e:UX #[hs,8]=true:=sK λd b=>(DF d b).1;have c:UX #[as,9]=true:=sK λd b=>by refine(mM0.mp b).a λa i g=>?_;subst g;unfold aM;rw[gT,yS,yS,gT,sK λd b=>(NB (h a i d b)).1];rfl
 rw[gT,yS,yS,gT,gT,e,c];rfl
abbrev DB(q:MV)(ts:Tk)(c:Int)(ln lv:Nat)(h a t n m k:T0):Rho:=[some q,#[ts.map tbl,3],#[c,0],#[ln],#[lv],h,a,t,n,m,k]
theorem zAA(Q:QOk ts as)(O:S[ln]? =#[xs.map MV.str,2])(H:xs≠[])(J:S[lv]? =#[vs,2])(C:vs≠[])(y: ∀v∈vs,VS v)(D: ∀p∈ts,1<=p.1/\p.1<=4/\0<=p.2/\p.2<=p.1)(c):
  ∃(b a:Int×List MV)(k:Nat),b∈as/\a.1=b.1/\(∀d∈a.2,wY d)/\zQ 5 bY [.val (qM hs as),#[ts.map tbl,6],#[c,5],#[ln,1],#[lv,1]] S=#[qM hs (as.take k++[a]++as.drop k),S,1]:=by
 have h1:=Q.ne;have h4:=Q.len;obtain⟨b,E⟩:=uU (xs:=as) (i:=c % (as.length:Int)) (eN0 _ (by omega)) (eL _ (by omega));have o:b∈as:=uV (P:=λb=>b∈as) (λ_ h=>h) E;obtain⟨p,F,_⟩:=(Q.at' b o).tb;have aa:=D p (uV (P:=λb=>b∈ts) (λ_ h=>h) F);obtain⟨r,K,X⟩:=NP c (show 4<=10 by decide) S;obtain⟨Z,s⟩: ∃Z,Z=S++[MO.lst (r.map MV.int)]:=⟨_,rfl⟩
 have z:Z[ln]? =#[xs.map MV.str,2]:=by rw[s];exact aQ O
 have w:Z[lv]? =#[vs,2]:=by rw[s];exact aQ J
 have L:Z[↑0]? =#[r.map MV.int,2]:=by rw[s];exact zM _ _
 obtain⟨out,A,W,u⟩:=FP (S:=Z) (gf:=xF 0) (cf:=aO) (ef:=gD) (ρb:=[none,#[ln],#[lv]]) (gs:=[]) (P:=TmIn xs) (yX _) (ds:=(r.map MV.int).take p.1.toNat) λd q=>by obtain⟨i,_,rfl⟩:=mM0.mp (þ q);obtain⟨t,M,e⟩:=Gr z H w C y i;refine⟨[#[i,0],#[ln],#[lv]],t,rfl,rfl,?_,M⟩;unfold gD;exists 7,e
 have B:((r.map MV.int).take p.1.toNat).length<1000000:=by rw[lT,lM0];omega
 obtain⟨k,U⟩: ∃k:Nat,(c / 4) % ((as.length:Int)+1)=k:=⟨((c / 4) % ((as.length:Int)+1)).toNat,by have:=eN0 (c / 4) (show(as.length:Int)+1≠0 by lia);lia⟩
 refine⟨b,(b.1,out),k,o,rfl,λd q=>(u d q).ok,?_⟩;have i0:yC (.val (qM hs as)) #[0,5] S=.ok #[hs.map MV.str,6] S:=rfl;have I: ∀Y:Sto,yC #[as.map aM,6] #[c % (as.length:Int),5] Y=#[aM b,Y,1]:=λY=>ix_tup (by rw[vL,E];rfl);have N: ∀Y:Sto,yC #[ts.map tbl,6] #[b.1,5] Y=#[tbl p,Y,1]:=λY=>ix_tup (by rw[vL,F];rfl);have G: ∀Y:Sto,kY [#[as.map aM,6]] Y=.ok #[↑10,5] Y:=λY=>by rw[iA,lM0]
 have n:yW #[(as.map aM).take k,6] #[[aM (b.1,out)],6] Z=.ok _ Z:=rP (fits (by rw[lT,lM0];simp;omega));have m:yW #[(as.map aM).take k++[aM (b.1,out)],6] #[(as.map aM).drop k,6] Z=.ok _ Z:=rP (fits (by rw[lA,lT,ÿ,lM0];simp;omega))
 have hF:bY [qM hs as,.tup (ts.map tbl),.int c,.loc ln,.loc lv] S=#[qM hs (as.take k++[(b.1,out)]++as.drop k),Z,1]:=by
  show yE (fX (DB (qM hs as) ts c ln lv none none none none none none) S)=_;unfold fX;refine lN (zN (S':=S) rfl (zN (ρ':=DB (qM hs as) ts c ln lv #[hs.map MV.str,3] #[as.map aM,3] #[b.1,0] none none none) (S':=S) ?_ (zN (ρ':=DB (qM hs as) ts c ln lv #[hs.map MV.str,3] #[as.map aM,3] #[b.1,0] #[↑0] none none) (S':=Z) ?_ (zN (ρ':=DB (qM hs as) ts c ln lv #[hs.map MV.str,3] #[as.map aM,3] #[b.1,0] #[↑0] #[out,3] none) (S':=Z) ?_ (zN (ρ':=DB (qM hs as) ts c ln lv #[hs.map MV.str,3] #[as.map aM,3] #[b.1,0] #[↑0] #[out,3] (some (zC k))) (S':=Z) ?_ ?_)))))
  .unfold lB;exists 7,G,mod_lit (b:=(as.length:Int)) (by omega),I,show∀Y:Sto,yC (.val (aM b)) #[0,5] Y=.ok #[b.1,5] Y from λ_=>rfl
  .unfold lE;simp? [show zQ 2 yI [#[c,5],#[4,5]] S=_ from X];rw[s]
  .unfold lF;simp? [N,show∀Y:Sto,yC (.val (tbl p)) #[0,5] Y=.ok #[p.1,5] Y from λ_=>rfl,vN L,lU _ p.1 (show 0<=p.1 by omega),vM,B];rw[show AM 1 [3,4] _=[none,#[ln],#[lv]]from rfl,A];rfl
  .unfold lG;simp? [G,yF (b:=4) ↑4 ↑4,mod_lit (b:=(as.length:Int)+1) (by omega),U]
  .unfold lH;simp? [VC,DG,aV,tup2,show xY [#[[.int b.1,.tup out],6]] Z=.ok #[[aM (b.1,out)],6] Z from mZ (by simp),n,m];rw[show qM hs _=.tup [.tup #[hs,8],.tup ((as.map aM).take k++[aM (b.1,out)]++(as.map aM).drop k)] by simp[qM,map_take,map_drop]]
 refine nA (T:=[.lst (r.map MV.int)]) rfl (by rw[show zP [.val (qM hs as),#[ts.map tbl,6],#[c,5],#[ln,1],#[lv,1]] S=_ from rfl, <-s];exact hF) (AG ?_) (λl=>by simp);refine q_pd λa j=>?_;rcases á.mp j with j|j
 .rcases á.mp j with j|j
  .exact(Q.at' a (þ j)).tm
  .rw[mS.mp j];exact λd q=>(u d q).ok
 .exact(Q.at' a (Ļ j)).tm
def zAB{as:U0}(n:b∈as)(e:a.1=b.1): ∃j,KM [] (as.take k++[a]++as.drop k) 0=some j:=by
 cases h:KM [] _ 0 with
 |some j=>exact⟨j,rfl⟩
 |none=>
  have d:=B4 _ [] 0 nodup_nil h;rw[ĸ,ï,ï,List.map_singleton,aA]at d;have o:(as.map λa=>a.1.toNat)=((as.take k).map λa=>a.1.toNat)++((as.drop k).map λa=>a.1.toNat):=by rw[<-ï,List.take_append_drop]
  have c:b.1.toNat∈as.map λa=>a.1.toNat:=List.mem_map_of_mem n;rw[o]at c;rw[į]at d;refine d.e λ_ i m=>?_;rw[List.singleton_append,Ľ]at i;rcases á.mp c with c|c
  .exact absurd (by rw[e]) (m _ c _ (õ _ (mS.mpr rfl)))
  .exact absurd (by rw[e];exact c) i.1
def E3(h:xW n F rs S=.ok r S'):zQ n F rs S=.ok r S':=by
 unfold xW at h;unfold zQ;split at h
 .rename_i b;rw[iP b]
  cases e:F (zP rs S).1 (zP rs S).2 with
  |ok r2 S2=>rw[e]at h;exact h
  |exc c fs S2=>
   rw[e]at h;dsimp only at h;split at h
   .cases a:dY S _ S2<;>rw[a]at h<;>cases h
   .cases h
  |no=>rw[e]at h;cases h
 .cases h
def zAC(h:Lh (PQ ts hs as)=none): ∀a b,(a,b)∈PQ ts hs as->(b,a)∉PQ ts hs as:=λa b d c=>by have:=List.find?_eq_none.mp h _ d;exact this (dT0 c)
noncomputable abbrev HX(j:R0)(a b c d e f g h i:T0):Rho:=[some (.scr j),a,b,c,d,e,f,g,h,i]
theorem zAD(a:S[k]? =#[[zC 0],2])(b:S[k']? =#[[zC 0],2]):AS (.val (zAO k j)) (.val (zAO k' j)) S=#[.bl true,S,1]:=by refine Bm ?_;show Lc (eqv S zO) (.tp [.str DO,.loc k,.bl true,zC j,.bl false]) (.tp [.str DO,.loc k',.bl true,zC j,.bl false])=_;rw[EO];unfold rE rE rE rE rE rE;rw[show eqv S zO _ _=some _ from FO _ _ _,show eqv S zO _ _=some true from Cz a b _,show eqv S zO _ _=some true from UD _ _ _,show eqv S zO _ _=some _ from lR _ _ _,show eqv S zO _ _=some true from UD _ _ _,dT0 rfl,dT0 rfl];rfl
def Zg(h:S[l]? =#[ds,2]):LT [#[l,1]] S=#[ds,S,2]:=by show(match itemsOf S _ with |some ds=>R.ok _ S|none=>.no)=_;rw[show itemsOf S #[l,1]=some ds from nB h]
theorem Sz{ns:Za}(Q:Qn ts hs as)(w c v n):
  ∃(t f:T0)(U':Sto),(∀ G  r ,G (HX ↑22 w #[ts.map tbl,3] v c n ↑33 t f none) U'=r->zL KE (zL KF (zL KG G)) (HX ↑22 w #[ts.map tbl,3] v c n ↑33 none none none) U=r)/\ ∀k o,k<U.length->U[k]? =some o->U'[k]? =some o:=by
 obtain⟨E,ag⟩: ∃E,E=ns.map MV.int:=⟨_,rfl⟩
 rw[<-ag];have hr:=λS=>E3 (VL (hs:=hs) Q.q S);have i0: ∀Y:Sto,yC (.val (qM hs as)) #[0,5] Y=.ok #[hs.map MV.str,6] Y:=λ_=>rfl;have i1: ∀Y:Sto,yC (.val (qM hs as)) #[1,5] Y=.ok #[as.map aM,6] Y:=λ_=>rfl;have la: ∀Y:Sto,kY [#[as.map aM,6]] Y=.ok #[↑10,5] Y:=λY=>by rw[iA,lM0]
 cases M:Lh (PQ ts hs as)with
 |none=>
  refine((show ∃X:List (List MV),pd (GC X)=true/\X.length<=24/\FOk ts hs X/\zQ 2 xR [#[ts.map tbl,6],.val (qM hs as)] U=.ok #[[.str NT,GC X],6] U by
    have hh:=Q.h;obtain⟨LA,N,h2,h3⟩:=Yy Q.q (zAC M) (λa B=>(Q.at B).1) #[] U;have J:=SE (ts:=ts) LA hs λa B=>⟨(Q.at (N a B)).2.k,(Q.q.at' a (N a B)).len⟩
    have h4:=Q.q.len;have C:pd (GC ((CG _ hs LA).map C5))=true:=Cv _ λxs ao=>by obtain⟨d,hd,rfl⟩:=mM0.mp ao;obtain⟨ys,rfl,_⟩:=GD _ LA hs d hd;exact VU LA hs (λa B=>(Q.at (N a B)).1) _ hd
    exact⟨_,C,by rw[lM0];lia,Hg LA hs hs (λa B=>(Q.at (N a B)).2) λ_ hx=>hx,Zc C h3⟩)).elim λX g=>g.k λC J aa ht=>?_;have ar:=Q.h;have aq:=Q.t;refine Zf (#[[.str NT,GC X],3]) none U (λG r h=>zN (ρ':=HX E w #[ts.map tbl,3] v c n ↑33 #[[.str NT,GC X],3] none none) (S':=U) ?_ (zN (ρ':=HX E w #[ts.map tbl,3] v c n ↑33 #[[.str NT,GC X],3] none none) (S':=U) ?_ (zN (ρ':=HX E w #[ts.map tbl,3] v c n ↑33 #[[.str NT,GC X],3] none none) (S':=U) ?_ h))) (λk o _ h=>h)
  .unfold KE;exists 7,ht
  .unfold KF;exists 7,ht,Zd aa C J U
  .have Z:=hr U;rw[M]at Z;unfold KG;simp? [HR,AN,i0,eq_str,Đ,if_true,show zQ 2 sV [#[ts.map tbl,6],.val (qM hs as)] U=#[.non,U,1] from Z,show∀S:Sto,QU (.val .non) (.val .non) S=#[.bl false,S,1] from λ_=>rfl,fT,iF,zDX (S:=U) #[] aa #[] #[]];rfl
 |some p=>
  obtain⟨a,b⟩:=p;refine(Sn M).k λB hb O ah=>?_;have ae:a≠b:=λe=>by have:=HW.mp O;exact this.2.2.1 e.symm
  have z: ∀Y:Sto,zQ 2 xR [#[ts.map tbl,6],.val (qM hs as)] Y=#[Cw (Y.length+3) (Y.length+1),Y++[.lst [zC a,zC b],.lst [zC a,zC b],.ins "Ring" [("ring",.loc (Y.length+1))],.lst [zC 1]],1]:=λY=>Kr ((by
    refine(Sn M).e λN h2 _=>?_;have h4:=(Q.q).len;have:=So (Q.q) M (dT0 ⟨by lia,by lia,by lia,by lia⟩) Y
    have e:xW 2 yB [.val _,.val _] Y=(match yB [.tup (ts.map tbl),qM hs as] Y with
     |.ok r S2=>dY Y r S2
     |.exc c fs S2=>if fs.all (λp=>LZ p.2)=true then(dY Y _ S2).bind λ_ S3=>.exc c fs S3 else .exc c fs S2
     |.no=>.no):=iP rfl
    rw[e,this];rfl));obtain⟨l,J⟩: ∃l,l=U.length:=⟨_,rfl⟩
  obtain⟨y,A⟩: ∃y:Sto,y=U++[.lst [zC a,zC b],.lst [zC a,zC b],.ins "Ring" [("ring",.loc (U.length+1))],.lst [zC 1]]:=⟨_,rfl⟩
  have l5:y.length=l+4:=by rw[A,J,lA];rfl
  have k7:y[l+3]? =#[[zC 1],2]:=by rw[A,J];simp
  have T:y[l+1]? =#[[zC a,zC b],2]:=by rw[A,J];simp
  have t5:=z U;rw[<-A, <-J]at t5;obtain⟨S6,u⟩: ∃S6:Sto,S6=y++[.lst [zC a,zC b],.lst [zC a,zC b],.ins "Ring" [("ring",.loc (y.length+1))],.lst [zC 1]]:=⟨_,rfl⟩
  have t6:=z y;rw[<-u]at t6;have n6:=Ze (S:=S6) (k:=y.length+3) (k':=l+3) (r:=y.length+1) (r':=l+1) (i:=a) (j:=b) (by rw[u];simp) (by rw[u];exact aQ k7) (by rw[u];simp) (by rw[u];exact aQ T);obtain⟨S7,H⟩: ∃S7:Sto,S7=S6++[.lst [zC 1]]:=⟨_,rfl⟩
  have K: ∀{k:Nat}{o:MO},y[k]? =some o->S7[k]? =some o:=λh=>by rw[H,u];exact aQ (aQ h)
  have ab:xY [.new [.int 1],.val (.bl true)] S6=.ok #[[.loc S6.length,.bl true],6] S7:=by rw[H];exact iP (fits (show 2<=1000000 by decide))
  have ai:dN (.val (Cw (l+3) (l+1))) (some 1) (some 3) S6=.ok #[[.loc (l+3),.bl true],6] S6:=rfl;have n7:QT #[[.loc (l+3),.bl true],6] #[[.loc S6.length,.bl true],6] S7=#[.bl false,S7,1]:=by refine HA (k:=true) ?_;show Lc (eqv S7 zO) (.tp [.loc (l+3),.bl true]) (.tp [.loc S6.length,.bl true])=_;rw[EO];unfold rE rE rE;rw[show eqv S7 zO (.loc (l+3)) (.loc S6.length)=some true from Cz (i:=1) (K k7) (by rw[H];exact zM _ _) (zO - 2),show eqv S7 zO (.bl true) (.bl true)=some true from UD _ _ _];rfl
  have r7:=hr S7;rw[M]at r7;have sw:=E3 (NO (hs:=hs) Q.q S7);have ir:=zEC (S:=S7) (r:=l+1) (n:=↑10) (K T) ae B hb O ah;obtain⟨L,D⟩: ∃L:Sto,L=S7++[.lst [zC a,zC b]]:=⟨_,rfl⟩
  have P:L[l+1]? =#[[zC a,zC b],2]:=by rw[D];exact aQ (K T)
  have aj:L[S7.length]? =#[[zC a,zC b],2]:=by rw[D];exact zM _ _
  obtain⟨F,I⟩: ∃F:Sto,F=L.set (l+1) (.lst ([zC a,zC b]++[.int 0])):=⟨_,rfl⟩
  have l7:l+1<S7.length:=(gS.mp (K T)).1;have af:F[S7.length]? =#[[zC a,zC b],2]:=by rw[I,yH #[]];exact aj
  obtain⟨s,m⟩: ∃s:Sto,s=F++[.lst [zC a,zC b],.lst [zC a,zC b],.ins "Ring" [("ring",.loc (F.length+1))],.lst [zC 1]]:=⟨_,rfl⟩
  have W:=z F;rw[<-m]at W;have ak:QT #[F.length+1,1] #[S7.length,1] s=#[.bl false,s,1]:=HA (k:=true) (Sw (i:=a) (j:=b) (by rw[m];simp) (by rw[m];exact aQ af) (zO - 1));refine Zf (some (Cw (l+3) (l+1))) (#[S7.length]) s (λG r h=>zN (ρ':=HX E w #[ts.map tbl,3] v c n ↑33 (some (Cw (l+3) (l+1))) none none) (S':=y) ?_ (zN (ρ':=HX E w #[ts.map tbl,3] v c n ↑33 (some (Cw (l+3) (l+1))) none none) (S':=S6) ?_ (zN (S':=s) ?_ h))) (λk o hk h=>?_)
  .unfold KE;exists 7,t5
  .unfold KF;exists 7,t6,n6
  .have x3: ∀(k r:Nat)(Y:Sto),yC (.val (Cw k r)) #[3,5] Y=.ok #[r,1] Y:=λ_ _ _=>rfl;unfold KG;simp? [show∀(k r:Nat)(Y:Sto),yC (.val (Cw k r)) #[0,5] Y=#[.str DO,Y,1] from λ_ _ _=>rfl,eq_str,dF0 (show¬DO=NT by decide),fT,iF,ai,lst1,ab,n7,show zQ 2 sV [#[ts.map tbl,6],.val (qM hs as)] S7=#[[zC a,zC b],S7,2] from r7,show∀Y:Sto,XG (.new [zC a,zC b]) (.val .non) Y=#[.bl false,Y,1] from λ_=>rfl,x3,i1,la,sw,ir,Bool.not_true];refine zN (ρ':=HX E w #[ts.map tbl,3] v c n ↑33 (some (Cw (l+3) (l+1))) #[S7.length] none) (S':=L) ?_ (zN (ρ':=HX E w #[ts.map tbl,3] v c n ↑33 (some (Cw (l+3) (l+1))) #[S7.length] none) (S':=F) ?_ ?_)
   .simp? [x3,Zg (K T)];rw[D]
   .simp? [x3,xT P,dH P (show [zC a,zC b].length<1000000 by simp)];rw[I]
   .exists 7,W,x3,ak
  .have h5:y[k]? =some o:=by rw[A];exact aQ h
   rw[m];refine aQ ?_;rw[I,yH #[],D];exact aQ (K h5)
theorem Ta(ns:Za)(h:ns.length<=63): ∃S,YT [.scr ↑22] []=#[.bl true,S,1]:=by
 obtain⟨n,s⟩: ∃n,n=ns.map MV.int:=⟨_,rfl⟩
 have cell: ∀(k:Int),0<=k-> ∀S, ∃c,zQ 2 zX [.val (.scr n),#[k,5]] S=.ok #[c,5] S:=λk hk S=>by rw[s];exact Gx ns k hk S
 rw[<-s];obtain⟨c0,a7⟩:=cell 0 ↑4 [];obtain⟨ws,ae,ak,ao⟩:=Rh c0 [];obtain⟨r,o⟩: ∃r:Sto,r=[.lst #[ws,8]]:=⟨_,rfl⟩
 have f1:UR (HX n none none none none none none none none none) []=#[HX n #[0] none none none none none none none none,r,0]:=by unfold UR;simp? [a7,ao];rw[o];rfl
 obtain⟨c1,ax⟩:=cell 1 ↑4 r;obtain⟨ts,⟨a3,O⟩,ah,a4⟩:=Kk c1 r;have f2:US (HX n #[0] none none none none none none none none) r=#[HX n #[0] #[ts.map tbl,3] none none none none none none none,r,0]:=by unfold US;exists 7,ax,a4
 obtain⟨c2,az⟩:=cell 2 ↑4 r;have av:r[0]? =#[ws.map MV.str,2]:=by rw[o];rfl
 have W:iE #[ws,8] (some 4) none=(ws.drop 4).map MV.str:=by have:=aV #[ws,8] 4;rw[map_drop];exact this
 obtain⟨vs,ag,_,aa,aw⟩:=Kl c2 (ws:=ws.drop 4) (by rw[ÿ,ae]) r;obtain⟨H,q⟩: ∃H:Sto,H=r++[.lst vs]:=⟨_,rfl⟩
 have f3:UT (HX n #[0] #[ts.map tbl,3] none none none none none none none) r=#[HX n #[0] #[ts.map tbl,3] #[1] none none none none none none,H,0]:=by unfold UT;simp? [az,vN av,W,aw];rw[q,o];rfl
 obtain⟨out,aq,af,au⟩:=FP (S:=H) (gf:=xF 0) (cf:=RV) (ef:=HN) (ρb:=[none,some (.scr n)]) (gs:=[]) (P:=λy=> ∃i:Int,y=.int i) (yX _) (ds:=(List.range 6).map zC) λd hd=>by obtain⟨k,hk,rfl⟩:=mM0.mp hd;obtain⟨c,hc⟩:=cell (3+(k:Int)) #[] H;refine⟨[some (zC k),some (.scr n)],.int c,rfl,rfl,?_,⟨c,rfl⟩⟩;unfold HN;exists 7,hc
 obtain⟨cs,rfl⟩:=ZP au;rw[lM0,lM0,ñ]at af;obtain⟨B,v⟩: ∃B:Sto,B=H++[.lst (cs.map MV.int)]:=⟨_,rfl⟩
 have f4:UU (HX n #[0] #[ts.map tbl,3] #[1] none none none none none none) H=#[HX n #[0] #[ts.map tbl,3] #[1] #[2] none none none none none,B,0]:=by unfold UU;simp? [X7,show((List.range 6).map zC).length<1000000 by decide];rw[show AM 1 [0] _=[none,some (.scr n)]from rfl,aq];rw[v,q,o];rfl
 have zEK:B[0]? =#[ws.map MV.str,2]:=by rw[v,q,o];rfl
 have E:↑16=3:=by rw[v,q,o];rfl
 obtain⟨M,A⟩:=cell 9 ↑4 B;obtain⟨p,hp⟩:=uU (xs:=([4,2,4,3]:Za)) (i:=M % 4) (eN0 _ ↑4) (eL _ ↑4);have a9:2<=p/\p<=4:=uV (P:=λp:Int=>2<=p/\p<=4) ↑4 hp;have a6: ∀S:Sto,yC (.new [.int 4,.int 2,.int 4,.int 3]) #[M % 4,5] S=.ok #[p,5] S:=λS=>Bn (by have:=vL MV.int [4,2,4,3] (M % 4);rw[hp]at this;exact this);obtain⟨xs,I⟩: ∃xs,xs=ws.take p.toNat:=⟨_,rfl⟩
 have J:↑8=p.toNat:=by rw[I,lT,ae];lia
 have m:xs≠[]:=λz=>by rw[z]at J;simp at J;lia
 have G:iE #[ws,8] none (some p)=xs.map MV.str:=by rw[lU _ p #[], <-map_take,I]
 obtain⟨w,u⟩: ∃w:Sto,w=B++[.lst #[xs,8]]:=⟨_,rfl⟩
 have f5:UV (HX n #[0] #[ts.map tbl,3] #[1] #[2] none none none none none) B=#[HX n #[0] #[ts.map tbl,3] #[1] #[2] #[3] none none none none,w,0]:=by unfold UV;simp? [A,mod_lit (show(0:Int)<4 by decide),Yp,a6,vN zEK,G];rw[u,E]
 have X:w[1]? =#[vs,2]:=by rw[u,v,q,o];rfl
 have ay:w[2]? =#[cs.map MV.int,2]:=by rw[u,v,q,o];rfl
 have K:w[3]? =#[xs.map MV.str,2]:=by rw[u, <-E];exact zM _ _
 have a8:w.length=4:=by rw[u,lA,E];rfl
 obtain⟨hs,as,Q,hh,hT,hq⟩:=Rp (lc:=2) (ln:=3) (lv:=1) (xs:=xs) (ts:=ts) ay af K m #[] X ag aa a3 O ah;have f6:UW (HX n #[0] #[ts.map tbl,3] #[1] #[2] #[3] none none none none) w=#[HX n #[0] #[ts.map tbl,3] #[1] #[2] #[3] ↑33 none none none,w,0]:=by unfold UW;exists 7,hq
 have a0:Qn ts hs as:=⟨Q,hh,O,xs,λx hx=>í (ak x (þ (by rw[<-I];exact hx))) ↑4,hT⟩
 obtain⟨t,f,U,Z,C⟩:=Sz (ns:=ns) (U:=w) a0 #[0] #[2] #[1] #[3];obtain⟨U',D⟩:=(show ∃U',zL uG (zL FX MZ) (HX ↑22 #[0] #[ts.map tbl,3] #[1] #[2] #[3] ↑33 t f none) U=.ok (.ret (.val (.bl true))) U' by
   obtain⟨n,s⟩: ∃n,n=ns.map MV.int:=⟨_,rfl⟩
   obtain⟨M,A⟩:=Gx ns 9 ↑4 U;rw[<-s]at A ⊢;have i1: ∀(bs:U0)(Y:Sto),yC (.val (qM hs bs)) #[1,5] Y=.ok _ Y:=λ_ _=>rfl;have la: ∀Y:Sto,kY [#[as.map aM,6]] Y=.ok #[↑10,5] Y:=λY=>by rw[iA,lM0]
   by_cases h4:↑10=4
   .have e:uG (HX n #[0] #[ts.map tbl,3] #[1] #[2] #[3] ↑33 t f none) U=.ok (.ret (.val (.bl true))) U:=by unfold uG;simp? [i1,la,h4];rfl
    exact⟨U,pM e⟩
   .have aj:uG (HX n #[0] #[ts.map tbl,3] #[1] #[2] #[3] ↑33 t f none) U=#[HX n #[0] #[ts.map tbl,3] #[1] #[2] #[3] ↑33 t f none,U,0]:=by unfold uG;simp? [i1,la,dF0 (show¬(as.length:Int)=4 by lia)];rfl
    obtain⟨b,a,k,hb,ea,ht,hd⟩:=zAA (hs:=hs) Q (C 3 _ #[] K) m (C 1 _ #[] X) ag aa ah (M / 4);obtain⟨j,hj⟩:=zAB (k:=k) hb ea;obtain⟨bs,F⟩: ∃bs,bs=as.take k++[a]++as.drop k:=⟨_,rfl⟩
    rw[<-F]at hd hj;have hl:=Q.len;have N:bs.length<=4:=by rw[F,lA,lA,lT,ÿ,lS];lia
    have h0: ∀x∈bs,0<=x.1:=λx m=>by
     rw[F]at m;rcases á.mp m with m|m
     .rcases á.mp m with m|m
      .exact Q.pos x (þ m)
      .rw[mS.mp m,ea];exact Q.pos b hb
     .exact Q.pos x (Ļ m)
    have ar:FX (HX n #[0] #[ts.map tbl,3] #[1] #[2] #[3] ↑33 t f none) U=#[HX n #[0] #[ts.map tbl,3] #[1] #[2] #[3] ↑33 t f (some (qM hs bs)),U,0]:=by unfold FX;exists 7,A,yF (b:=4) ↑4 ↑4,hd
    have ab:=Su (Zb (ts:=ts) (hs:=hs) N h0 hj U);obtain⟨U1,T⟩: ∃U1:Sto,U1=U++[.ins "Double" (NQ j),.lst [zC 0]]:=⟨_,rfl⟩
    rw[<-T]at ab;have L:=Rt h0 N U1;rw[hj]at L;have ai:xY [.val (.str DO),.new [.int 0],.val (.bl true),.val (zC j),.val (.bl false)] U1=#[zAO U1.length j,U1++[.lst [zC 0]],1]:=iP (fits (show 5<=1000000 by decide));have a5:=zAD (k:=U.length+1) (k':=U1.length) (j:=j) (aQ (by rw[T];exact Ru _ _ _)) (zM _ _);refine⟨U1++[.lst [zC 0]],zN aj (zN ar ?_)⟩;unfold MZ;simp? [ab,lst1,i1,show zQ 1 fZ [#[bs.map aM,6]] U1=#[zC j,U1,1] from L,ai,a5]);rw[<-s]at Z D;refine⟨U',?_⟩;show yE _=_;unfold A6;refine lN (zN f1 (zN f2 (zN f3 (zN f4 (zN f5 (zN f6 ?_))))));exact Z _ _ D
section
variable{K:P0}
noncomputable abbrev zAE(a:Nat->Addr):List (Str×Addr):=[("TooGreat",a 0),("NoText",a 1),("NoPlace",a 2),("NotPlain",a 3),("NoTable",a 4),("NoRule",a 5),("NoRow",a 6),("Twice",a 7),("NoQuestion",a 8),("Double",a 9),("TooWide",a 10),("Ring",a 11)]
def JC:((zAE xl).map (·.1)).Nodup:=show XNS.Nodup from by decide
noncomputable def top(i:Nat):Stmt:=PySem.Challenge.pw_mendsure_k73_formulas_or_rings.main.body.getD i (.Pass ⟨0,0,0,0⟩)
set_option bootstrap.genMatcherCode true in
local macro_rules
 | `(tactic|exists 1,$t)=>`(tactic|with_reducible show $t)
 | `(tactic|exists 7,$t)=>`(tactic|exists 1,zR _ _ _ $t)
 | `(tactic|exists 8,$t)=>`(tactic|exists 1,WI _ _ _ _ (bJ _ $t))
 | `(tactic|exists 3,$t)=>`(tactic|exists 1,zR _ _ (.Call (.Name $t _) _ _ _) _)
 | `(tactic|exists 4,$t)=>`(tactic|exists 1,zR _ _ (.Call (.Attribute _ $t _) _ _ _) _)
 | `(tactic|exists 5,$t)=>`(tactic|exists 1,zR _ _ (.BinOp _ $t _ _) _)
 | `(tactic|exists 6,$t)=>`(tactic|exists 1,zR _ _ (.Compare _ [$t] _ _) _)
 | `(tactic|and_intros)=>`(tactic|repeat' (first |(exists 1,uP _ _ [_] _;refine zU ?_)|(exists 1,uP _ _ (_::_) _;refine zK ?_ ?_)|(exists 1,uP _ _ [] _;exact eA)|(exists 1,LN _ _ (.Assign _ (.ListComp _ _ _ _) _) _;refine Pl ‹_› ?_ (λ_ _ _ _ _=>?_) (λ_ _ _ _=>?_) (λ_ _ _ _=>?_))|(exists 1,LN _ _ (.Assign [.Name _ _] _ _) _;refine zZ _ ‹_› ?_)|(exists 1,LN _ _ (.Assign _ _ _) _;refine Bb ?_ ?_)|(exists 1,LN _ _ (.Return _ _) _;refine wW ?_)|(exists 1,LN _ _ (.For _ _ _ _ _) _;refine uR PassesOwn.never rfl ?_ ?_ ?_)|(exists 1,LN _ _ (.If _ _ _ _) _;refine iH ?_ ?_ ?_)|(exists 1,LN _ _ (.Expr _ _) _;refine nK ?_)|(exists 1,LN _ _ (.While _ _ _ _) _;refine LO _ PassesOwn.never ?_ ?_)|(exists 1,zR _ _ (.Name _ _) _;first |(exists 1,zR _ _ (.Name _ _) (vJ _);exact zB _)|exact IO rfl ‹_› FM|exact IO rfl ‹_› Q7|exact IO rfl ‹_› Bh|exact IO rfl ‹_› UA)|(exists 1,zR _ _ (.Constant _ _ _) _;first |exact zS|exact uO _|exact mQ|exact GU)|(exists 1,zR _ _ (.UnaryOp _ _ _) _;first |exact Mp|refine O8 ?_)|(exists 1,zR _ _ (.List _ _) _;refine jI ?_)|(exists 1,zR _ _ (.Tuple _ _ _) _;refine bQ ?_)|(exists 1,zR _ _ (.BinOp _ _ _ _) _;first |(exists 5,.Mod;refine Bg ?_ ?_)|(exists 5,.Add;refine eB ?_ ?_)|(exists 5,.FloorDiv;refine Nb ?_ ?_)|(exists 1,zR _ _ (.BinOp _ .Mult _ _) (dJ tV _ _);refine Q1 ?_ ?_)|(exists 5,.Sub;refine P8 ?_ ?_)|(exists 5,.Pow;refine P9 ?_ ?_))|(exists 1,zR _ _ (.Compare _ _ _ _) _;first |(exists 6,.Eq;refine Zv (Room.units ‹_›) ?_ ?_)|(exists 6,.In;refine Zw (Room.units ‹_›) ?_ ?_)|(exists 6,.In;refine W3 ?_ ?_)|(exists 6,.NotIn;refine Nl (Room.units ‹_›) ?_ ?_)|(exists 6,.Is;(exists 1,zR _ _ (.Compare _ _ _ _) (dJ XG _ _);refine zCE ?_ ?_)))|(exists 1,zR _ _ (.Subscript _ _ _) _;first |(exists 1,zR _ _ (.Subscript _ _ _) (dJ yC _ _);refine xE ?_ ?_)|(exists 1,zR _ _ (.Subscript _ _ _) (tJ dN _ _ _);refine EQ ?_ ?_ ?_))|(exists 1,zR _ _ (.ListComp _ _ _ _) _;refine Pk ‹_› ?_ (λ_ _ _ _ _=>?_) (λ_ _ _ _=>?_) (λ_ _ _ _=>?_))|(exists 1,zR _ _ (.Dict _ _ _) _;exact XR)|(exists 1,zR _ _ (.IfExp _ _ _ _) _;refine zCB ?_ ?_ ?_)|(exists 1,zR _ _ (.BoolOp _ _ _) _;first |refine O6 ?_|refine O7 ?_ ?_|refine zCA ?_ ?_)|(exists 1,zR _ _ (.Call (.Attribute _ _ _) _ _ _) _;first |(exists 4,"append";refine iR ?_ ?_)|(exists 4,"reverse";refine Bj ?_)|(exists 4,"update";refine Xf ?_ ?_))|(exists 1,zR _ _ (.Call (.Name _ _) _ _ _) _;first |(exists 3,"len";refine yK gI sS rfl ‹_› mX ?_)|(exists 3,"isinstance";refine yK BD LR rfl ‹_› dZ ?_)|(exists 3,"tuple";refine gH sQ LS rfl ‹_› FM ?_)|(exists 3,"dict";refine gH Jx (Xc rfl) rfl ‹_› Xb ?_)|(exists 3,"len";refine yK Jy Xg rfl ‹_› mX ?_)|(exists 3,"min";refine yK (Ht rfl) V4 rfl ‹_› V5 ?_)|(exists 1,zR _ _ (.Call (.Name "list" _) _ _ _) (bJ _ uZ);refine gH MH (YG rfl) rfl ‹_› rO ?_)|(exists 3,"all";refine yK TC (Q5 rfl) rfl ‹_› Q6 ?_)|(exists 3,"any";refine yK FS (Pd rfl) rfl ‹_› Np ?_)|(exists 3,"int";refine gH XO Q9 rfl ‹_› Bh ?_)|(exists 3,"sorted";refine yK Cf (Ph rfl) rfl ‹_› MN ?_)|(exists 1,zR _ _ (.Call (.Name "list" _) _ _ _) (bJ _ LT);refine gH pF TZ rfl ‹_› rO ?_)|refine zV ‹_› (Room.mono ‹_› (by decide)) rfl ?_)|(exists 1,AR _ _ (.Compare _ _ _ _) _;first |(exists 1,AR _ _ (.Compare _ [.Eq] _ _) _;refine Nf (Room.units ‹_›) ?_ ?_)|(exists 1,AR _ _ (.Compare _ [.NotIn] _ _) _;refine LQ (Room.units ‹_›) ?_ ?_)|(exists 1,AR _ _ (.Compare _ [.NotEq] _ _) _;refine XE (Room.units ‹_›) ?_ ?_)|(exists 1,AR _ _ (.Compare _ [.Lt] _ _) _;refine Nh (Room.units ‹_›) ?_ ?_)|(exists 1,AR _ _ (.Compare _ [.In] _ _) _;refine Zx (Room.units ‹_›) ?_ ?_)|(exists 1,AR _ _ (.Compare _ [.LtE,.Lt] _ _) _;refine Ec (Room.units ‹_›) ?_ ?_ ?_)|(exists 1,AR _ _ (.Compare _ [.Gt] _ _) _;refine zCD ?_ ?_))|(exists 1,AR _ _ (.UnaryOp _ _ _) _;refine EN ?_)|(exists 1,AR _ _ (.BoolOp _ _ _) _;refine QP ?_)|(exists 1,AR _ _ _ _;refine wG ?_)|(exists 1,Zq _ _ _ _;first |refine LM ?_ ?_|refine LL ?_)|(exists 1,IM _ _ _ _;first |refine zA ?_ ?_|exact zF)|(exists 1,O4 _ _ _ _;first |exact CW|refine rN ?_)|(exists 1,TL _ _ _ _;first |exact CY|refine uS ?_)|(exists 1,WI _ _ _ _ _;first |(exists 8,kG;refine qD rfl ‹_› ?_)|(exists 8,IQ;refine pK ?_)|(exists 8,Iq;refine Bc ?_)|(exists 8,itQ;refine U7 ?_)|(exists 8,zEI;refine P2 ?_))|(exists 1,Mt _ _ (.Name _ _) _;exact nL _ ‹_›)|(exists 1,Mt _ _ _ _;first |refine TJ rfl ?_|(exists 1,Mt _ _ _ (DJ vZ _ _);refine UL ?_ ?_)|(exists 1,Mt _ _ _ (DJ QX _ _);refine R1 ?_ ?_))|(exists 1,Mu _ _ _ _;first |refine uQ ?_ ?_|exact TH)|(exists 1,Zr _ _ _ (.Name _ _) _;exact nN _ ‹_›)))
 | `(tactic|exists 2,$f:ident,$xs:ident,*)=>`(tactic|(refine okA $f ‹_› (λ_ _ _ _ _ _ _ _ _ _=>?_);delta $f $xs*; (first |refine zU ?_|refine zK ?_ ?_);and_intros))
 | `(tactic|exists 0,$f:ident,$xs:ident,*)=>`(tactic|(refine okL $f ‹_› (λ_ _ _ _ _ _ _ _ _=>?_);delta $f $xs*; (first |refine zU ?_|refine zK ?_ ?_);and_intros))
abbrev GE:Stmt:=inClass (top 13) 0
abbrev uH:Stmt:=inClass (top 11) 0
def ZW(D:DefM K mg "names_in" (top 15))(a:mg "list"=none):Ou P w K mg base "names_in" 1 1 ["atoms"] kU:=by exists 2,ES,pO,pP,pQ,pN,qI,eM,eK
def kR:FnScope oW ["question"] (zE (top 17)):=fsK ↑21
def CI(D:DefM K mg "check_tables_once" (top 17))(e:XTab K mg xM (zAE xl))(j:mg "enumerate"=none)(c:XIn K xM (xl 9) f_Double)(a:FnOk P w K mg base EY 1 f_Double fdI_Double ["self","place"] (Et (xl 9) "place"))(b:Binds K fdI_Double ["self","place"] []):Ov P w K mg base "check_tables_once" 3 1 ["question"] xD:=
 by have h:=Ow (P:=P) (w:=w) (base:=base) D (λ_ _ _ _ _ _ o p=>match o,p with |[_],_=>rfl) λf q F=>zCM (k:=2) _ F kR λm A d s H E i=>(zK (zZ 1 kR.nd XR) (zU (uR ĩ rfl (Eh rfl j (zA (xE (zB 0) zS) zF)) (TJ (n:=2) rfl (uQ (nL 2 kR.nd) (uQ (nL 3 kR.nd) TH))) (zK (iH (W4 (xE (zB 3) zS) (zB 1)) (zU (Jk EM rfl (e.each.at t9M).1 e.mc c a b i (zB 2))) eA) (zU (Bb mQ (UL (zB 1) (xE (zB 3) zS))))))))
    exact h
def OZ(D:DefM K mg "free_names" (top 18))(a:Ou P w K mg base "names_in" 1 1 ["atoms"] kU):Ou P w K mg base "free_names" 2 2 ["question","atom"] xZ:=by exists 2,pS,eO,cF,iU
def VX(D:DefM K mg "key_names" (top 19))(a:Ou P w K mg base "free_names" 2 2 ["question","atom"] xZ):Ou P w K mg base "key_names" 3 3 ["tables","question","atom"] aR:=by exists 2,rV,lX,lY
def ZX(D:DefM K mg "known_at" (top 20))(d:Ou P w K mg base "key_names" 3 3 ["tables","question","atom"] aR)(b:mg "dict"=none)(c:mg "len"=none)(e:mg "all"=none)(a:Ou P w K mg base "free_names" 2 2 ["question","atom"] xZ):Ou P w K mg base "known_at" 4 3 ["tables","question","place"] vE:=by exists 2,vD,pT,pU,pV,pW,vB,vC,qK,eP,eU,eT,qQ,eS,qP,qL,eQ,qO,eR
def GH(D:DefM K mg "have_in_common" (top 21))(a:mg "any"=none):Ou P w K mg base "have_in_common" 1 2 ["some","others"] cH:=by exists 2,cG,aK,bR,kI
def wI:FnScope sT ["tables","question","place"] (zE (top 22)):=fsK ↑21
def NW(D:DefM K mg "swayed_from" (top 22))(q:Ou P w K mg base "known_at" 4 3 ["tables","question","place"] vE)(i:Ou P w K mg base "free_names" 2 2 ["question","atom"] xZ)(d:mg "range"=none)(j:mg "len"=none)(e:Ou P w K mg base "have_in_common" 1 2 ["some","others"] cH)(n:mg "list"=none):Ou P w K mg base "swayed_from" 5 3 ["tables","question","place"] mE:=
 by have h:=zAJ (P:=P) (w:=w) (base:=base) D (λ_ _ _ _ _ _ o p=>match o,p with |[_,_,_],_=>rfl) λf r F=>P4 (k:=4) _ F wI λm A c s H E a=>(zK (zZ 3 wI.nd (zV q (a.mono (by decide)) rfl (zA (zB 0) (zA (zB 1) (zA (zB 2) zF))))) (zK (TQ 4 wI.nd (zE (top 22)) sT ["atom"] [1,3] (Bc (xE (zB 1) zS)) rfl (λ_ _ _ _ b=>(nN 0 b)) (λ_ _ _ _=>CY) (λ_ _ _ _=>(pL (rlS ({kind:=PySem.ScopeKind.function,names:=[(PySem.Str.ofString ".0",PySem.NameKind.local),(PySem.Str.ofString "atom",PySem.NameKind.local),(PySem.Str.ofString "free_names",PySem.NameKind.globalImplicit),(PySem.Str.ofString "learnt",PySem.NameKind.free),(PySem.Str.ofString "question",PySem.NameKind.free)],isGenerator:=false,isCoroutine:=false,more:=[]:PySem.Scope}) (zE (top 22))) ["atom","question","learnt"] ["name"] [2] (pK (zV i (a.mono (by decide)) rfl (zA (zB 1) (zA (zB 0) zF)))) rfl (λ_ _ _ _ b=>(nN 0 b)) (λ_ _ _ _=>(uS (RM (zB 0) (zB 1)))) (λ_ _ _ _=>(zB 0))))) (zK (zZ 5 wI.nd ((Pf (zB 2) mQ))) (zK (zZ 6 wI.nd (jI (zA (zB 2) zF))) (zK (LO 10000 ļ (wG (zB 6)) (zK (zZ 7 wI.nd (xE (zB 4) (Xj (zB 6)))) (zU (uR ļ rfl (qD rfl d (zA (yK gI sS rfl j mX (zA (zB 4) zF)) zF)) (nL 8 wI.nd) (zU (iH (QP (O9 (RM (zB 8) (zB 5)) (Va (wG (zV e (a.mono (by decide)) rfl (zA (zB 7) (zA (xE (zB 4) (zB 8)) zF))))))) (zK (Bb mQ (UL (zB 5) (zB 8))) (zU (nK (iR (zB 6) (zA (zB 8) zF))))) eA)))))) (zU (wW (gH MH (YG rfl) rfl n rO (zA (zB 5) zF)))))))))
    exact h
def NY:FnScope UQ ["tables","question"] (zE (top 23)):=fsK ↑21
def Td(D:DefM K mg "sways" (top 23))(o:Ov P w K mg base "check_tables_once" 3 1 ["question"] xD)(p:mg "range"=none)(m:mg "len"=none)(z:Ou P w K mg base "swayed_from" 5 3 ["tables","question","place"] mE)(i:mg "sorted"=none):Ov P w K mg base "sways" 6 2 ["tables","question"] pX:=
 by have h:=Ow (P:=P) (w:=w) (base:=base) D (λ_ _ _ _ _ _ d b=>match d,b with |[_,_],_=>rfl) λf B F=>zCM (k:=5) _ F NY λn A c s H E a=>(zK (nK (tX EM o (a.mono (by decide)) rfl (zA (zB 1) zF))) (zK (zZ 2 NY.nd (jI zF)) (zK (uR ĩ rfl (qD rfl p (zA (yK gI sS rfl m mX (zA (xE (zB 1) zS) zF)) zF)) (nL 3 NY.nd) (zU (nK (DC (zB 2) (zA (pL (zE (top 23)) UQ ["b"] [3] (pK (zV z (a.mono (by decide)) rfl (zA (zB 0) (zA (zB 1) (zA (zB 3) zF))))) rfl (λ_ _ _ _ e=>(nN 0 e)) (λ_ _ _ _=>(uS (XE a.units (zB 0) (zB 1)))) (λ_ _ _ _=>(bQ (zA (zB 1) (zA (zB 0) zF))))) zF))))) (zU (wW (yK ((by
   intro pins s σ H xs d Q I r h;refine h.q λα S l C G g=>g.f λJ v b j ok q=>?_;subst J;obtain⟨u,rfl,y⟩:=vals1 r;cases y;exact Jq (a.u128) I v b j ok.len ok.pu ok.kind ok.ord q)) Wy rfl i MN (zA (zB 2) zF)))))))
    exact h
def KO:FnScope Pu ["tables","question"] (zE (top 24)):=fsK ↑21
def Zh(D:DefM K mg "ring" (top 24))(c:Ov P w K mg base "sways" 6 2 ["tables","question"] pX):Ov P w K mg base "ring" 7 2 ["tables","question"] sV:=
 by have h:=Ow (P:=P) (w:=w) (base:=base) D (λ_ _ _ _ _ _ d e=>match d,e with |[_,_],_=>rfl) λf j F=>zCM (k:=6) _ F KO λi A a s H E b=>(zK (zZ 2 KO.nd (tX EM c (b.mono (by decide)) rfl (zA (zB 0) (zA (zB 1) zF)))) (zK (uR ĩ rfl (pK (zB 2)) (TJ (n:=2) rfl (uQ (nL 3 KO.nd) (uQ (nL 4 KO.nd) TH))) (zU (iH (Zx b.units (bQ (zA (zB 4) (zA (zB 3) zF))) (zB 2)) (zU (wW (jI (zA (zB 3) (zA (zB 4) zF))))) eA))) (zU (wW GU))))
    exact h
def lP:FnScope tZ ["tables","question"] (zE (top 26)):=fsK ↑21
def De(D:DefM K mg "in_turn" (top 26))(e:Ov P w K mg base "sways" 6 2 ["tables","question"] pX)(j:mg "len"=none)(n:mg "list"=none)(i:mg "range"=none)(d:mg "any"=none):Ov P w K mg base "in_turn" 7 2 ["tables","question"] DE:=
 by have h:=Ow (P:=P) (w:=w) (base:=base) D (λ_ _ _ _ _ _ o p=>match o,p with |[_,_],_=>rfl) λf q F=>zCM (k:=6) _ F lP λm A c s H E b=>(zK (zZ 2 lP.nd (tX EM e (b.mono (by decide)) rfl (zA (zB 0) (zA (zB 1) zF)))) (zK (zZ 3 lP.nd (Wv rfl rfl n rfl i (zA (yK gI sS rfl j mX (zA (xE (zB 1) zS) zF)) zF))) (zK (zZ 4 lP.nd (jI zF)) (zK (LO 10000 ĩ (wG (zB 3)) (zK (zZ 5 lP.nd (pL (zE (top 26)) tZ ["b"] [2,3] (pK (zB 3)) rfl (λ_ _ _ _ a=>(nN 0 a)) (λ_ _ _ _=>(uS (EN (wG (yK FS (Pd rfl) rfl d Np (zA (pL (rlS ({kind:=PySem.ScopeKind.function,names:=[(PySem.Str.ofString ".0",PySem.NameKind.local),(PySem.Str.ofString "b",PySem.NameKind.cell),(PySem.Str.ofString "any",PySem.NameKind.globalImplicit),(PySem.Str.ofString "left",PySem.NameKind.free),(PySem.Str.ofString "pairs",PySem.NameKind.free)],isGenerator:=false,isCoroutine:=false,more:=[]:PySem.Scope}) (zE (top 26))) ["b","pairs","left"] ["a"] [0,1] (pK (zB 2)) rfl (λ_ _ _ _ a=>(nN 0 a)) (λ_ _ _ _=>CY) (λ_ _ _ _=>(Zw b.units (bQ (zA (zB 0) (zA (zB 1) zF))) (zB 2)))) zF)))))) (λ_ _ _ _=>(zB 0)))) (zK (nK (DC (zB 4) (zA (zB 5) zF))) (zU (zZ 3 lP.nd (pL (zE (top 26)) tZ ["b"] [5] (pK (zB 3)) rfl (λ_ _ _ _ a=>(nN 0 a)) (λ_ _ _ _=>(uS (LQ b.units (zB 0) (zB 1)))) (λ_ _ _ _=>(zB 0)))))))) (zU (wW (pL (zE (top 26)) tZ ["place"] [1] (pK (zB 4)) rfl (λ_ _ _ _ a=>(nN 0 a)) (λ_ _ _ _=>CY) (λ_ _ _ _=>(xE (xE (zB 1) zS) (zB 0))))))))))
    exact h
def Ku(D:DefM K mg "is_new" (top 27)):Ou P w K mg base "is_new" 1 2 ["term","named"] uB:=by exists 2,YR,MY
def Aa(D:DefM K mg "stand_in" (top 28))(a:Ou P w K mg base "is_new" 1 2 ["term","named"] uB):Ou P w K mg base "stand_in" 2 2 ["term","named"] vH:=by exists 2,vG,vF
def xO:FnScope BL ["tables","atom","named"] (zE (top 29)):=fsK ↑21
def VY(D:DefM K mg "parts_for" (top 29))(p:Ou P w K mg base "names_in" 1 1 ["atoms"] kU)(r:Ou P w K mg base "stand_in" 2 2 ["term","named"] vH)(c:mg "tuple"=none)(i:mg "enumerate"=none)(o:Ou P w K mg base "is_new" 1 2 ["term","named"] uB):Ou P w K mg base "parts_for" 3 3 ["tables","atom","named"] mR:=
 by have h:=zAJ (P:=P) (w:=w) (base:=base) D (λ_ _ _ _ _ _ m u=>match m,u with |[_,_,_],_=>rfl) λf z F=>P4 (k:=2) _ F xO λj A b s H E a=>(zK (zZ 3 xO.nd (xE (zB 1) zS)) (zK (zZ 4 xO.nd (xE (xE (zB 0) (zB 3)) zS)) (zK (zZ 5 xO.nd (EQ (xE (zB 1) zS) CW (rN (zB 4)))) (zK (zZ 6 xO.nd (eB (zB 2) (zV p (a.mono (by decide)) rfl (zA (jI (zA (bQ (zA (zB 3) (zA (zB 5) zF))) zF)) zF)))) (zK (zZ 7 xO.nd (bQ (zA (uO [115,111,109,101]) (zA (zB 3) (zA (eB (zB 5) (gH sQ LS rfl c FM (zA (pL (zE (top 29)) BL ["term"] [6] (Bc (EQ (xE (zB 1) zS) (rN (zB 4)) CW)) rfl (λ_ _ _ _ d=>(nN 0 d)) (λ_ _ _ _=>CY) (λ_ _ _ _=>(zV r (a.mono (by decide)) rfl (zA (zB 0) (zA (zB 1) zF))))) zF))) zF))))) (zK (zZ 8 xO.nd (jI zF)) (zK (zZ 9 xO.nd (jI zF)) (zK (uR ļ rfl (Eh rfl i (zA (EQ (xE (zB 1) zS) (rN (zB 4)) CW) zF)) (TJ (n:=2) rfl (uQ (nL 10 xO.nd) (uQ (nL 11 xO.nd) TH))) (zU (iH (wG (zV o (a.mono (by decide)) rfl (zA (zB 11) (zA (zB 6) zF)))) (zK (nK (iR (zB 8) (zA (zB 11) zF))) (zU (nK (iR (zB 6) (zA (xE (zB 11) zS) zF))))) (zK (nK (iR (zB 8) (zA (bQ (zA (uO [118,97,114]) (zA (Xk (Po [99,101,108,108,32] (Pn (zB 3) (Po [32] (Pn (zB 10) (λout pins s α y S σ H Q v I e sl q=>
   joinParts_nil (Z3 (.str (kX out)) H (I.tok _) ⟨_,rfl⟩ (Post.val q e (nI out))) (by rw[jV];exact v))))))) zF))) zF))) (zU (nK (iR (zB 9) (zA (bQ (zA (uO [115,97,109,101]) (zA (xE (zB 8) Mp) (zA (zB 11) zF)))) zF)))))))) (zU (wW (eB (jI (zA (zB 7) (zA (bQ (zA (uO [101,97,99,104]) (zA (zB 3) (zA (eB (zB 5) (gH sQ LS rfl c FM (zA (zB 8) zF))) zF)))) zF))) (zB 9))))))))))))
    exact h
def yT:FnScope AA ["tables","question"] (zE (top 30)):=fsK ↑21
def HY(D:DefM K mg "put_otherwise" (top 30))(i:XTab K mg xM (zAE xl))(r:Ov P w K mg base "ring" 7 2 ["tables","question"] sV)(c:XIn K xM (xl 11) f_Ring)(a:FnOk P w K mg base EY 1 f_Ring fdI_Ring ["self","ring"] (UP (xl 11) "ring"))(b:Binds K fdI_Ring ["self","ring"] [])(o:mg "list"=none)(j:Ov P w K mg base "in_turn" 7 2 ["tables","question"] DE)(n:Ou P w K mg base "parts_for" 3 3 ["tables","atom","named"] mR)(q:Ou P w K mg base "names_in" 1 1 ["atoms"] kU)(u:mg "reversed"=none):Ov P w K mg base "put_otherwise" 8 2 ["tables","question"] yB:=
 by have h:=Ow (P:=P) (w:=w) (base:=base) D (λ_ _ _ _ _ _ p v=>match p,v with |[_,_],_=>rfl) λf y F=>zCM (k:=7) _ F yT λm A e s H E d=>(zK (zZ 2 yT.nd (tX EM r (d.mono (by decide)) rfl (zA (zB 0) (zA (zB 1) zF)))) (zK (iH (XJ (zB 2) GU) (zU (Kf EM rfl (i.each.at t11M).1 i.mc c a b d (zB 2))) eA) (zK (zZ 3 yT.nd (gH pF TZ rfl o rO (zA (xE (zB 1) zS) zF))) (zK (zZ 4 yT.nd (jI zF)) (zK (uR ĩ rfl (pK (tX EM j (d.mono (by decide)) rfl (zA (zB 0) (zA (zB 1) zF)))) (nL 5 yT.nd) (zK (nK (DC (zB 4) (zA (zV n (d.mono (by decide)) rfl (zA (zB 0) (zA (zB 5) (zA (zB 3) zF)))) zF))) (zU (nK (DC (zB 3) (zA (zV q (d.mono (by decide)) rfl (zA (jI (zA (zB 5) zF)) zF)) zF)))))) (zK (zZ 6 yT.nd (bQ (zA (uO [121,101,115]) zF))) (zK (uR ĩ rfl (V7 rfl u (zA (zB 4) zF)) (nL 7 yT.nd) (zU (zZ 6 yT.nd (eB (zB 7) (bQ (zA (zB 6) zF)))))) (zU (wW (zB 6))))))))))
    exact h
def JS(D:DefM K mg ś (top 32))(a:mg "len"=none):Ou P w K mg base ś 1 2 [Ň,ŉ] zX:=by exists 2,fD,cJ,uC
def JT(D:DefM K mg ŕ (top 33))(a:mg "range"=none):Ou P w K mg base ŕ 1 1 [ŋ] jN:=by exists 2,fE,cL,cN,cO,cP,cQ,iV,cK,jZ,hW
def uK(D:DefM K mg Ŏ (top 34))(b:mg "range"=none)(a:Ou P w K mg base ŕ 1 1 [ŋ] jN):Ou P w K mg base Ŏ 2 2 [ŋ,ń] wC:=by exists 2,wA,xL,xN,kW,xK,yZ,xA,xB,yP,yY
def PB(D:DefM K mg ť (top 35))(b:Ou P w K mg base Ŏ 2 2 [ŋ,ń] wC)(a:mg "range"=none):Ou P w K mg base ť 3 2 [Ņ,ń] qA:=by exists 2,cY,jO,fG,fH,fK,fM,fN,fO,fP,qS,fF,cU,cW,cX,bS,cS,cT,iW
def PC(D:DefM K mg Œ (top 36))(a:mg "range"=none):Ou P w K mg base Œ 1 2 [Ņ,ń] yI:=by exists 2,dE,fR,jP,fS,fU,BV,bT,fQ,cZ,dA,dB,dC
def OA(D:DefM K mg š (top 37))(d:Ou P w K mg base Œ 1 2 [Ņ,ń] yI)(c:mg "int"=none)(a:mg "min"=none)(b:mg "tuple"=none):Ou P w K mg base š 2 1 [Ņ] mI:=by exists 2,mH,nS,nU,nV,oK,nR,gV,gW
def OB(D:DefM K mg Ţ (top 38))(d:mg "range"=none)(b:Ou P w K mg base ŕ 1 1 [ŋ] jN)(c:mg "len"=none)(a:mg "min"=none):Ou P w K mg base Ţ 2 2 [Ņ,Ŋ] mK:=by exists 2,gK,kC,nW,nY,nZ,aB,xV,kN,gZ,gX,kM,gY
def VZ(D:DefM K mg ş (top 39))(a:mg "len"=none):Ou P w K mg base ş 1 3 rS aT:=by exists 2,aS,gM,tK
def HZ(D:DefM K mg Ř (top 40))(a:mg "sorted"=none):Ou P w K mg base Ř 1 1 [ō] aD:=by exists 2,aC,bA,bB,fW,fV,pA,kO,kZ
def IA(D:DefM K mg ř (top 41))(d:mg "len"=none)(e:mg "range"=none)(h:Ou P w K mg base Œ 1 2 [Ņ,ń] yI)(c:Ou P w K mg base ş 1 3 rS aT)(b:mg "tuple"=none)(a:Ou P w K mg base Ř 1 1 [ō] aD):Ou P w K mg base ř 2 4 [Ť,Ń,Ō,ň] gG:=by exists 2,aF,bC,bD,bE,bF,bG,bH,bI,bK,bL,dP,jA,kP,jF,jG,jC,jD,jE,dQ,jB
def wF:FnScope [ő,ŏ] [ő] (zE (top 42)):=fsK ↑21
def OD(D:DefM K mg œ (top 42))(a:XTab K mg xM (zAE xl))(b:mg "isinstance"=none)(e:mg "range"=none):CalH P w K mg base œ 1 1 [ő] gA:=
 by have h:=okCH (P:=P) (w:=w) (base:=base) D (λ_ _ _ _ _ _ m n=>match m,n with |[_],_=>rfl) λf p F=>okH (k:=0) _ F wF λj A c s H o i=>(zK (zZ 1 wF.nd (jI (zA (xP a JC t9M b rfl rfl (zB 0)) (zA (xP a JC t11M b rfl rfl (zB 0)) (zA (xP a JC t3M b rfl rfl (zB 0)) (zA (xP a JC (.head _) b rfl rfl (zB 0)) zF)))))) (zK (zZ 1 wF.nd (eB (zB 1) (jI (zA (xP a JC t1M b rfl rfl (zB 0)) (zA (xP a JC t2M b rfl rfl (zB 0)) (zA (xP a JC t4M b rfl rfl (zB 0)) (zA (xP a JC t5M b rfl rfl (zB 0)) zF))))))) (zK (zZ 1 wF.nd (eB (zB 1) (jI (zA (xP a JC t6M b rfl rfl (zB 0)) (zA (xP a JC t7M b rfl rfl (zB 0)) (zA (xP a JC t8M b rfl rfl (zB 0)) (zA (xP a JC t10M b rfl rfl (zB 0)) zF))))))) (zU (wW (Pj (zE (top 42)) [ő,ŏ] [ŉ] [1] (Ci rfl e (zA zS zF)) i (λ_ _ _ _ d=>(nN 0 d)) (λ_ _ _ _=>(uS (wG (xE (zB 1) (zB 0))))) (λ_ _ _ _=>(zB 0))))))))
    exact h
def PD(D:DefM K mg œ (top 42))(a:XTab K mg xM (zAE xl))(b:mg "isinstance"=none)(e:mg "range"=none):Ou P w K mg base œ 1 1 [ő] gA:=
 by have h:=zAJ (P:=P) (w:=w) (base:=base) D (λ_ _ _ _ _ _ j m=>match j,m with |[_],_=>rfl) λf o F=>P4 (k:=0) _ F wF λi A c s H E n=>(zK (zZ 1 wF.nd (jI (zA (xP a JC t9M b rfl rfl (zB 0)) (zA (xP a JC t11M b rfl rfl (zB 0)) (zA (xP a JC t3M b rfl rfl (zB 0)) (zA (xP a JC (.head _) b rfl rfl (zB 0)) zF)))))) (zK (zZ 1 wF.nd (eB (zB 1) (jI (zA (xP a JC t1M b rfl rfl (zB 0)) (zA (xP a JC t2M b rfl rfl (zB 0)) (zA (xP a JC t4M b rfl rfl (zB 0)) (zA (xP a JC t5M b rfl rfl (zB 0)) zF))))))) (zK (zZ 1 wF.nd (eB (zB 1) (jI (zA (xP a JC t6M b rfl rfl (zB 0)) (zA (xP a JC t7M b rfl rfl (zB 0)) (zA (xP a JC t8M b rfl rfl (zB 0)) (zA (xP a JC t10M b rfl rfl (zB 0)) zF))))))) (zU (wW (pL (zE (top 42)) [ő,ŏ] [ŉ] [1] (qD rfl e (zA zS zF)) rfl (λ_ _ _ _ d=>(nN 0 d)) (λ_ _ _ _=>(uS (wG (xE (zB 1) (zB 0))))) (λ_ _ _ _=>(zB 0))))))))
    exact h
def JU(D:DefM K mg Ŗ (top 43))(b:mg "tuple"=none)(e:mg "isinstance"=none)(h:mg "len"=none)(a:mg "str"=none)(c:mg "int"=none)(d:mg "bool"=none):Ou P w K mg base Ŗ 1 2 eI xC:=by exists 2,CA,jQ,jR,iZ
def DP(D:DefM K mg Ŕ (top 44))(h:mg "len"=none)(b:mg "int"=none)(e:mg "isinstance"=none)(c:mg "bool"=none)(a:mg "tuple"=none)(d:Ou P w K mg base Ŗ 1 2 eI xC):Ou P w K mg base Ŕ 2 2 aI gC:=by exists 2,aL,bU,bV,bW,bX,wD,gB
def EV(D:DefM K mg ŗ (top 45))(h:mg "list"=none)(a:mg "tuple"=none)(c:mg "isinstance"=none)(d:mg "len"=none)(b:Ou P w K mg base Ŗ 1 2 eI xC)(e:Ou P w K mg base Ŕ 2 2 aI gC):Ou P w K mg base ŗ 3 3 [Ś,Ń,Ş] bM:=by exists 2,sF,dR,pB,dS,pC,xX,wN,wO,wQ,wR,xH,wM
def JV(D:DefM K mg Ŝ (top 46))(c:mg "len"=none)(d:Ou P w K mg base Œ 1 2 [Ņ,ń] yI)(b:Ou P w K mg base ş 1 3 rS aT)(a:mg "tuple"=none):Ou P w K mg base Ŝ 2 5 [ņ,Ń,Ņ,Ō,ň] bY:=by exists 2,fX,uD,lB,lE,lF,lG,lH,aO,gD
def PH(D:DefM K mg Ŧ (top 47))(b:mg "range"=none)(a:mg "len"=none):Ou P w K mg base Ŧ 1 1 [ō] fZ:=by exists 2,qB,fY,CB,bZ,dG,lK,lL
def dM:FnScope IW [Ń,ņ] (zE (top 48)):=fsK ↑21
def WA(D:DefM K mg ŧ (top 48))(b:XTab K mg xM (zAE xl))(a:CalH P w K mg base œ 1 1 [ő] gA)(c:mg "isinstance"=none)(p:mg "ValueError"=none)(n:mg "bool"=none)(q:Ov P w K mg base "put_otherwise" 8 2 ["tables","question"] yB):Ou P w K mg base ŧ 9 2 [Ń,ņ] xR:=
 by have h:=zAJ (P:=P) (w:=w) (base:=base) D (λ_ _ _ _ _ _ o r=>match o,r with |[_,_],_=>rfl) λf u F=>P4 (k:=8) _ F dM λm A d s H E e=>(zK (zZ 2 dM.nd GU) (zK (Pt (i:=3) (j:=2) [116,111,108,100] b rfl dM.nd q (e.mono (by decide)) rfl (zA (zB 0) (zA (zB 1) zF)) (λv=>(zK (zZ 2 dM.nd (bQ (zA (uO [114,101,102,117,115,101,100]) (zA (Jm a ((e.inH v).mono (by decide)) rfl (zA (zB 3) zF)) (zA (T7 b c p rfl rfl (zB 3)) zF))))) (zK (iH (wG (xP b JC t11M c rfl rfl (zB 3))) (zU (zZ 2 dM.nd (eB (zB 2) (bQ (zA (Xl b (by decide) Fi (zB 3)) zF))))) eA) (zU (iH (wG (xP b JC t9M c rfl rfl (zB 3))) (zU (zZ 2 dM.nd (eB (zB 2) (bQ (zA (Ot b (by decide) MI (zB 3)) (zA (yK BD LR rfl c dZ (zA (Ot b (by decide) MI (zB 3)) (zA (IO rfl n UA) zF))) zF)))))) eA)))))) (zU (wW (zB 2)))))
    exact h
def AK:FnScope BM [Ő,ţ,ń] (zE (top 49)):=fsK ↑21
def JW(D:DefM K mg ŝ (top 49))(m:mg "list"=none)(d:mg "isinstance"=none)(a:mg "len"=none)(p:mg "set"=none)(e:mg "range"=none)(i:mg "int"=none)(n:mg "bool"=none):Ou P w K mg base ŝ 1 3 [Ő,ţ,ń] cA:=
 by have h:=zAJ (P:=P) (w:=w) (base:=base) D (λ_ _ _ _ _ _ o q=>match o,q with |[_,_,_],_=>rfl) λf r F=>P4 (k:=0) _ F AK λj A c s H E b=>(zK (iH (QP (LM (EN (wG (yK BD LR rfl d dZ (zA (zB 0) (zA (IO rfl m rO) zF))))) (LM (Nh b.units (yK gI sS rfl a mX (zA (zB 0) zF)) zS) (LL (Nh b.units (Pi rfl rfl a rfl p (zA (zB 0) zF)) (yK gI sS rfl a mX (zA (zB 0) zF))))))) (zU (wW mQ)) eA) (zK (uR ļ rfl (qD rfl e (zA (yK gI sS rfl a mX (zA (zB 0) zF)) zF)) (nL 3 AK.nd) (zK (iH (QP (LM (EN (wG (yK BD LR rfl d dZ (zA (xE (zB 0) (zB 3)) (zA (IO rfl i Bh) zF))))) (LM (wG (yK BD LR rfl d dZ (zA (xE (zB 0) (zB 3)) (zA (IO rfl n UA) zF)))) (LL (EN (Ec b.units zS (xE (zB 0) (zB 3)) (zB 2))))))) (zU (wW mQ)) eA) (zU (iH (LQ b.units (bQ (zA (xE (zB 0) (zB 3)) (zA (xE (zB 0) (Bg (eB (zB 3) zS) (yK gI sS rfl a mX (zA (zB 0) zF)))) zF))) (zB 1)) (zU (wW mQ)) eA)))) (zU (wW mQ))))
    exact h
def tN:FnScope Pw [Ň] (zE (top 50)):=fsK ↑21
def zAF(F:Fun K "law" "law" (top 50) f fd)(j:Ou P w K mg base ť 3 2 [Ņ,ń] qA)(b:Ou P w K mg base ś 1 2 [Ň,ŉ] zX)(z:Ou P w K mg base š 2 1 [Ņ] mI)(C:Ou P w K mg base Ţ 2 2 [Ņ,Ŋ] mK)(q:mg "range"=none)(B:Ou P w K mg base ř 2 4 [Ť,Ń,Ō,ň] gG)(c:Ou P w K mg base ŧ 9 2 [Ń,ņ] xR)(i:Ov P w K mg base "ring" 7 2 ["tables","question"] sV)(y:Ou P w K mg base ŗ 3 3 [Ś,Ń,Ş] bM)(m:Ou P w K mg base ŝ 1 3 [Ő,ţ,ń] cA)(o:Ov P w K mg base "sways" 6 2 ["tables","question"] pX)(e:mg "len"=none)(v:mg "list"=none)(r:Ou P w K mg base Ŝ 2 5 [ņ,Ń,Ņ,Ō,ň] bY)(n:Ou P w K mg base Ŧ 1 1 [ō] fZ):FnOk P w K mg base EY 10 f fd [Ň] (Ag ⟨K,mg,P,w⟩ 1 YT):=
 by have h:=P4 (P:=P) (w:=w) (mg:=mg) (base:=base) (k:=9) _ F tN λu A d s H E a=>(zK (zZ 1 tN.nd (zV j (a.mono ↑4) rfl (zA ↑50 (zA zS zF)))) (zK (zZ 2 tN.nd (zV z (a.mono ↑4) rfl (zA ↑50 zF))) (zK (zZ 3 tN.nd (zV C (a.mono ↑4) rfl (zA ↑50 (zA (EQ (zB 1) (rN zS) CW) zF)))) (zK (TQ 4 tN.nd (zE (top 50)) Pw [ŉ] [0] (qD rfl q (zA zS zF)) rfl (λ_ _ _ _ p=>(nN 0 p)) (λ_ _ _ _=>CY) (λ_ _ _ _=>(zV b (a.mono ↑4) rfl (zA (zB 1) (zA (eB zS (zB 0)) zF))))) (zK (zZ 5 tN.nd (EQ (zB 1) CW (rN (xE (jI (zA zS (zA zS (zA zS (zA zS zF))))) (Bg ↑50 zS))))) (zK (zZ 6 tN.nd (zV B (a.mono ↑4) rfl (zA (zB 4) (zA (zB 2) (zA (zB 5) (zA (zB 3) zF)))))) (zK (zZ 7 tN.nd (zV c (a.mono ↑4) rfl (zA (zB 2) (zA (zB 6) zF)))) (zK (iH (XE a.units (zV c (a.mono ↑4) rfl (zA (zB 2) (zA (zB 6) zF))) (zB 7)) (zU (wW mQ)) eA) (zK (iH (Nf a.units (xE (zB 7) zS) (uO [116,111,108,100])) (zU (iH (QP (LM (XJ (zV i.noX (a.mono ↑4) rfl (zA (zB 2) (zA (zB 6) zF))) GU) (LL (EN (wG (zV y (a.mono ↑4) rfl (zA (xE (zB 7) zS) (zA (zB 2) (zA (xE (zB 6) zS) zF))))))))) (zU (wW mQ)) eA)) (zU (iH (QP (LM (XE a.units (EQ (zB 7) (rN zS) (rN zS)) (bQ (zA (jI (zA zS zF)) (zA mQ zF)))) (LL ((sR Ls Ed (zV i.noX (a.mono ↑4) rfl (zA (zB 2) (zA (zB 6) zF))) GU))))) (zU (wW mQ)) (zU (iH (EN (wG (zV m (a.mono ↑4) rfl (zA (xE (zB 7) zS) (zA (zV o.noX (a.mono ↑4) rfl (zA (zB 2) (zA (zB 6) zF))) (zA (yK gI sS rfl e mX (zA (xE (zB 6) zS) zF)) zF)))))) (zU (wW mQ)) (zK (zZ 8 tN.nd (gH pF TZ rfl v rO (zA (xE (zB 7) zS) zF))) (zK (nK (iR (xE (zB 7) zS) (zA zS zF))) (zU (iH (XE a.units (xE (zV c (a.mono ↑4) rfl (zA (zB 2) (zA (zB 6) zF))) zS) (zB 8)) (zU (wW mQ)) eA))))))))) (zK (iH (Nf a.units (yK gI sS rfl e mX (zA (xE (zB 6) zS) zF)) zS) (zU (wW mQ)) eA) (zK (zZ 9 tN.nd (zV r (a.mono ↑4) rfl (zA (zB 6) (zA (zB 2) (zA (Nb ↑50 zS) (zA (zB 5) (zA (zB 3) zF))))))) (zU (wW (Zv a.units (zV c (a.mono ↑4) rfl (zA (zB 2) (zA (zB 9) zF))) (bQ (zA (uO [114,101,102,117,115,101,100]) (zA (jI (zA zS zF)) (zA mQ (zA (zV n (a.mono ↑4) rfl (zA (xE (zB 9) zS) zF)) (zA mQ zF))))))))))))))))))))
    exact h
end
abbrev mgN:=@PySem.W.mg_none_of
abbrev nNo(K:PySem.W.Frag)(x:Str):Prop:=PySem.W.nsIn K mainGlobals x=some none
def all_mk{l:PySem.W.OpenLaw}{K:P0}(X:K.In h)(i:h.Ns mainGlobals mg)(Y:mg "law"=some (.ref fa))(D0:DefM K mg "names_in" (top 15))(D1:DefM K mg "check_tables_once" (top 17))(D2:DefM K mg "free_names" (top 18))(D3:DefM K mg "key_names" (top 19))(D4:DefM K mg "known_at" (top 20))(D5:DefM K mg "have_in_common" (top 21))(D6:DefM K mg "swayed_from" (top 22))(D7:DefM K mg "sways" (top 23))(D8:DefM K mg "ring" (top 24))(D9:DefM K mg "in_turn" (top 26))(D10:DefM K mg "is_new" (top 27))(D11:DefM K mg "stand_in" (top 28))(D12:DefM K mg "parts_for" (top 29))(D13:DefM K mg "put_otherwise" (top 30))(D14:DefM K mg ś (top 32))(D15:DefM K mg ŕ (top 33))(D16:DefM K mg Ŏ (top 34))(D17:DefM K mg ť (top 35))(D18:DefM K mg Œ (top 36))(D19:DefM K mg š (top 37))(D20:DefM K mg Ţ (top 38))(D21:DefM K mg ş (top 39))(D22:DefM K mg Ř (top 40))(D23:DefM K mg ř (top 41))(D24:DefM K mg œ (top 42))(D25:DefM K mg Ŗ (top 43))(D26:DefM K mg Ŕ (top 44))(D27:DefM K mg ŗ (top 45))(D28:DefM K mg Ŝ (top 46))(D29:DefM K mg Ŧ (top 47))(D30:DefM K mg ŧ (top 48))(D31:DefM K mg ŝ (top 49))(D32:DefM K mg "law" (top 50))
    (Ad:PySem.W.nsIn K mainGlobals "MendError"=some (some (.ref q0a))) (x_MendError:DL K q0a qC q0n)
    (Df:PySem.W.nsIn K mainGlobals "TooGreat"=some (some (.ref q0d))) (x_TooGreat:DL K q0d (.ref q0a::qC) q0o)
    (Tj:PySem.W.nsIn K mainGlobals "NoText"=some (some (.ref q0j))) (x_NoText:DL K q0j (.ref q0a::qC) q0r)
    (Kv:PySem.W.nsIn K mainGlobals "NoPlace"=some (some (.ref q0f))) (x_NoPlace:DL K q0f (.ref q0a::qC) q0q)
    (Di:PySem.W.nsIn K mainGlobals "NotPlain"=some (some (.ref q0e))) (x_NotPlain:DL K q0e (.ref q0a::qC) q0p)
    (Kw:PySem.W.nsIn K mainGlobals "NoTable"=some (some (.ref q0g))) (x_NoTable:DL K q0g (.ref q0a::qC) q0t)
    (Tf:PySem.W.nsIn K mainGlobals "NoRule"=some (some (.ref q0k))) (x_NoRule:DL K q0k (.ref q0a::qC) q0v)
    (Zj:PySem.W.nsIn K mainGlobals "NoRow"=some (some (.ref q0l))) (x_NoRow:DL K q0l (.ref q0a::qC) q0x)
    (Zi:PySem.W.nsIn K mainGlobals "Twice"=some (some (.ref q0m))) (x_Twice:DL K q0m (.ref q0a::qC) q0y)
    (WF:PySem.W.nsIn K mainGlobals "NoQuestion"=some (some (.ref q0b))) (x_NoQuestion:DL K q0b (.ref q0a::qC) q0s)
    (Th:PySem.W.nsIn K mainGlobals "Double"=some (some (.ref q0c))) (x_Double:DL K q0c (.ref q0a::qC) q0w)
    (Ky:PySem.W.nsIn K mainGlobals "TooWide"=some (some (.ref q0h))) (x_TooWide:DL K q0h (.ref q0a::qC) q0u)
    (zAG:PySem.W.nsIn K mainGlobals "Ring"=some (some (.ref q0i))) (x_Ring:DL K q0i (.ref q0a::qC) q0z)
  (j_MendError:q0n=none)
  (j_TooGreat:q0o=none)
  (j_NoText:q0r=none)
  (j_NoPlace:q0q=none)
  (j_NotPlain:q0p=none)
      (y_Double:XIn K q0a q0c I_Double) (lI_Double:K.lookup I_Double=some ⟨ocI_Double,odI_Double,.func (PySem.W.fnOf "__init__" "Double.__init__" (pG uH) (wK uH) (zE uH) .none kVI_Double dcI_Double pmI_Double anI_Double cdI_Double ctI_Double),slI_Double⟩) (cI_Double:PySem.W.codeIn K cdI_Double "Double.__init__"=true) (kI_Double:PySem.W.keepIn K (.ref I_Double)=true)
      (y_Ring:XIn K q0a q0i I_Ring) (lI_Ring:K.lookup I_Ring=some ⟨ocI_Ring,odI_Ring,.func (PySem.W.fnOf "__init__" "Ring.__init__" (pG GE) (wK GE) (zE GE) .none kVI_Ring dcI_Ring pmI_Ring anI_Ring cdI_Ring ctI_Ring),slI_Ring⟩) (cI_Ring:PySem.W.codeIn K cdI_Ring "Ring.__init__"=true) (kI_Ring:PySem.W.keepIn K (.ref I_Ring)=true)
  (xm:XMn K q0a)
  (xd:[q0a,q0d,q0j,q0f,q0e,q0g,q0k,q0l,q0m,q0b,q0c,q0h,q0i].Nodup)
  (vO:nNo K "ValueError")
  (E4:nNo K "all")
  (Hk:nNo K "any")
  (EW:nNo K "bool")
  (Te:nNo K "dict")
  (mT:nNo K "enumerate")
  (SH:nNo K "int")
  (zG:nNo K "isinstance")
  (jU:nNo K "len")
  (lQ:nNo K "list")
  (Ti:nNo K "min")
  (xG:nNo K "range")
  (EX:nNo K "reversed")
  (Tg:nNo K "set")
  (GM:nNo K "sorted")
  (E6:nNo K "str")
  (mP:nNo K "tuple")
  : ∃fd:FuncData,(∀ s  v ,BindsTo s fd ⟨[v],[]⟩ [(Ň,v)])/\ ∀base:Heap,K.In base->base.Ns mainGlobals mg->FnOk l.prog w K mg base EY 10 fa fd [Ň] (QY K YT):=by
 have p:=mgN X i vO;have J:=mgN X i E4;have E:=mgN X i Hk;have k:=mgN X i EW;have G:=mgN X i Te;have j:=mgN X i mT;have r:=mgN X i SH;have b:=mgN X i zG;have c:=mgN X i jU;have e:=mgN X i lQ;have C:=mgN X i Ti;have a:=mgN X i xG;have u:=mgN X i EX;have I:=mgN X i Tg;have q:=mgN X i GM;have L:=mgN X i E6;have d:=mgN X i mP;subst j_MendError;subst j_TooGreat;subst j_NoText;subst j_NoPlace;subst j_NotPlain;let xl:Nat->Addr:=λn=>[q0d,q0j,q0f,q0e,q0g,q0k,q0l,q0m,q0b,q0c,q0h,q0i].getD n 0;have H:XTab K mg q0a (zAE xl):=⟨PySem.W.mg_of X i Ad,x_MendError,⟨⟨PySem.W.mg_of X i Df,_,x_TooGreat⟩,⟨PySem.W.mg_of X i Tj,_,x_NoText⟩,⟨PySem.W.mg_of X i Kv,_,x_NoPlace⟩,⟨PySem.W.mg_of X i Di,_,x_NotPlain⟩,⟨PySem.W.mg_of X i Kw,_,x_NoTable⟩,⟨PySem.W.mg_of X i Tf,_,x_NoRule⟩,⟨PySem.W.mg_of X i Zj,_,x_NoRow⟩,⟨PySem.W.mg_of X i Zi,_,x_Twice⟩,⟨PySem.W.mg_of X i WF,_,x_NoQuestion⟩,⟨PySem.W.mg_of X i Th,_,x_Double⟩,⟨PySem.W.mg_of X i Ky,_,x_TooWide⟩,⟨PySem.W.mg_of X i zAG,_,x_Ring⟩,trivial⟩,xd⟩
 have o:=As (st:=uH) lI_Double cI_Double kI_Double;have z:=o.binds (ps:=["self","place"]) λ_ _ _ _ _ _ us hl=>match us,hl with |[_,_],_=>rfl
 have y:=As (st:=GE) lI_Ring cI_Ring kI_Ring;have D:=y.binds (ps:=["self","ring"]) λ_ _ _ _ _ _ us hl=>match us,hl with |[_,_],_=>rfl
 refine V2 D32 Y (λ_ _ _ _ _ _ s v=>.of_eq rfl) λbase f fd F=>?_;have A:FnOk l.prog w K mg base EY 1 I_Double _ ["self","place"] (Et q0c "place"):=Wt o (fsK ↑21) x_MendError y_Double xm H.m rfl (λ_=>rfl) (λ_=>rfl) (λ_=>rfl) rfl rfl rfl ↑4 ↑4 (.txt ↑4 (.fld (.txt ↑4 (.nil)))) ↑4 ↑4 MI;have B:FnOk l.prog w K mg base EY 1 I_Ring _ ["self","ring"] (UP q0i "ring"):=Pq y (fsK ↑21) x_MendError y_Ring xm H.m rfl (λ_=>rfl) (λ_=>rfl) (λ_=>rfl) rfl rfl e rfl rfl ↑4 ↑4 (.txt ↑4 (.fld (.nil))) ↑4 ↑4 Fi;have G0:=ZW (P:=l.prog) (w:=w) (base:=base) D0 e;have G1:=CI (P:=l.prog) (w:=w) (base:=base) D1 H j y_Double A z;have G2:=OZ D2 G0;have G3:=VX D3 G2;have G4:=ZX D4 G3 G c J G2;have G5:=GH (P:=l.prog) (w:=w) (base:=base) D5 E;have G6:=NW D6 G4 G2 a c G5 e;have G7:=Td D7 G1 a c G6 q;have G8:=Zh D8 G7;have G9:=De D9 G7 c e a E;have N:=Ku (P:=l.prog) (w:=w) (base:=base) D10;have ai:=Aa (P:=l.prog) (w:=w) (base:=base) D11 N;have ar:=VY (P:=l.prog) (w:=w) (base:=base) D12 G0 ai d j N;have aj:=HY (P:=l.prog) (w:=w) (base:=base) D13 H G8 y_Ring B D e G9 ar G0 u;have Z:=JS (P:=l.prog) (w:=w) (base:=base) D14 c;have T:=JT (P:=l.prog) (w:=w) (base:=base) D15 a;have af:=uK (P:=l.prog) (w:=w) (base:=base) D16 a T;have ah:=PB (P:=l.prog) (w:=w) (base:=base) D17 af a;have M:=PC (P:=l.prog) (w:=w) (base:=base) D18 a;have aa:=OA (P:=l.prog) (w:=w) (base:=base) D19 M r C d;have av:=OB (P:=l.prog) (w:=w) (base:=base) D20 a T c C;have Q:=VZ (P:=l.prog) (w:=w) (base:=base) D21 c;have au:=HZ (P:=l.prog) (w:=w) (base:=base) D22 q;have U:=IA (P:=l.prog) (w:=w) (base:=base) D23 c a M Q d au;have O:=OD (P:=l.prog) (w:=w) (base:=base) D24 H b a;have aw:=PD (P:=l.prog) (w:=w) (base:=base) D24 H b a;have S:=JU (P:=l.prog) (w:=w) (base:=base) D25 d b c L r k;have aq:=DP (P:=l.prog) (w:=w) (base:=base) D26 c r b k d S;have ao:=EV (P:=l.prog) (w:=w) (base:=base) D27 e d b c S aq;have ak:=JV (P:=l.prog) (w:=w) (base:=base) D28 c M Q d;have ag:=PH (P:=l.prog) (w:=w) (base:=base) D29 a c;have ab:=WA (P:=l.prog) (w:=w) (base:=base) D30 H O b p k aj;have ae:=JW (P:=l.prog) (w:=w) (base:=base) D31 e b c I a r k;exact zAF (P:=l.prog) (w:=w) (base:=base) F ah Z aa av a U ab G8 ao ae G7 c e ak ag
def walk{l:PySem.W.OpenLaw}{K:Params->PySem.W.Frag}(e:l.most=some 63)(b:d.params.defaults=[])
  (hY: ∀ w  h ,YP w h->(K w.params).In h)
  (F: ∀ w  mg  B  h ,(K w.params).In h->h.Ns mainGlobals mg->mg d.name=some (.ref B)->
   ∃m:FuncData,(∀ s  u ,BindsTo s m ⟨[u],[]⟩ [(Ň,u)])/\ ∀base:Heap,(K w.params).In base->base.Ns mainGlobals mg->FnOk l.prog w (K w.params) mg base EY 10 B m [Ň] (QY (K w.params) YT)):
  PySem.W.WalkO q loose XP YP l.row.toRowW d [] (λf vs=>PySem.call f vs):=
 L2.walk_of (n:=63) (k:=10) (x:=Ň) (CX:=λ_=>EY) (sp:=λw=>QY (K w.params) YT) e ↑4 b ⟨rfl,by decide,by decide,rfl⟩ hY F
  (λw H a c o i j=>(by have h:=(Ta c o);obtain⟨S,h⟩:=h;refine Z1 _ (yD (Dt (R3 i j) (GT c)) yN) rfl (λg _=>?_);rw[h];exact λv α' H' x w d=>vR d.1)) λ_ _ _ _ _ z=>z
end My
end M
end L2
namespace PySem.W.Fast
def tw17956322689519683253:=0
theorem te17956322689519683253:tw17956322689519683253=0:=rfl
def tw8885594810974942615:=0
theorem te8885594810974942615:tw8885594810974942615=0:=rfl
def tw6977352350175503377:=0
theorem te6977352350175503377:tw6977352350175503377=0:=rfl
def tw16799226196931130169:=0
theorem te16799226196931130169:tw16799226196931130169=0:=rfl
def tw15484909759455830711:=0
theorem te15484909759455830711:tw15484909759455830711=0:=rfl
def tw15905257203695867228:=0
theorem te15905257203695867228:tw15905257203695867228=0:=rfl
def tw5459754672652127506:=0
theorem te5459754672652127506:tw5459754672652127506=0:=rfl
def tw14804138401335417704:=0
theorem te14804138401335417704:tw14804138401335417704=0:=rfl
def tw5850677635012843313:=0
theorem te5850677635012843313:tw5850677635012843313=0:=rfl
def tw17043831731138648907:=0
theorem te17043831731138648907:tw17043831731138648907=0:=rfl
def tw12752474765863879315:=0
theorem te12752474765863879315:tw12752474765863879315=0:=rfl
def tw13142513336788171118:=0
theorem te13142513336788171118:tw13142513336788171118=0:=rfl
def tw10797795414204512199:=0
theorem te10797795414204512199:tw10797795414204512199=0:=rfl
def tw15016883975584241120:=0
theorem te15016883975584241120:tw15016883975584241120=0:=rfl
def tw4338949328247835012:=0
theorem te4338949328247835012:tw4338949328247835012=0:=rfl
def tw8469463650651266085:=0
theorem te8469463650651266085:tw8469463650651266085=0:=rfl
def tw9873052315572554069:=0
theorem te9873052315572554069:tw9873052315572554069=0:=rfl
def tw13669160438473512740:=0
theorem te13669160438473512740:tw13669160438473512740=0:=rfl
def tw13442462219409245378:=0
theorem te13442462219409245378:tw13442462219409245378=0:=rfl
def tw4003942904304654775:=0
theorem te4003942904304654775:tw4003942904304654775=0:=rfl
def tw4591640679122551703:=0
theorem te4591640679122551703:tw4591640679122551703=0:=rfl
def tw11451947874018733137:=0
theorem te11451947874018733137:tw11451947874018733137=0:=rfl
def tw2339495684367046355:=0
theorem te2339495684367046355:tw2339495684367046355=0:=rfl
def tw12805391300215275005:=0
theorem te12805391300215275005:tw12805391300215275005=0:=rfl
def tw6662559389186217142:=0
theorem te6662559389186217142:tw6662559389186217142=0:=rfl
def tw17465535189619285757:=0
theorem te17465535189619285757:tw17465535189619285757=0:=rfl
def tw9159434487192715195:=0
theorem te9159434487192715195:tw9159434487192715195=0:=rfl
def tw6565193748903936869:=0
theorem te6565193748903936869:tw6565193748903936869=0:=rfl
def tw15256576862572073445:=0
theorem te15256576862572073445:tw15256576862572073445=0:=rfl
def tw2796159606676652063:=0
theorem te2796159606676652063:tw2796159606676652063=0:=rfl
def tw13911653754304515123:=0
theorem te13911653754304515123:tw13911653754304515123=0:=rfl
def tw8405909408372432000:=0
theorem te8405909408372432000:tw8405909408372432000=0:=rfl
def tw13359693069765193520:=0
theorem te13359693069765193520:tw13359693069765193520=0:=rfl
def tw6368434519022993927:=0
theorem te6368434519022993927:tw6368434519022993927=0:=rfl
def tw1254077871520306353:=0
theorem te1254077871520306353:tw1254077871520306353=0:=rfl
def tw4305137813870110957:=0
theorem te4305137813870110957:tw4305137813870110957=0:=rfl
def tw12199111608629690539:=0
theorem te12199111608629690539:tw12199111608629690539=0:=rfl
def tw2309593023470599801:=0
theorem te2309593023470599801:tw2309593023470599801=0:=rfl
def tw385906121292944180:=0
theorem te385906121292944180:tw385906121292944180=0:=rfl
def tw3352722115259418929:=0
theorem te3352722115259418929:tw3352722115259418929=0:=rfl
def tw15544591581418519986:=0
theorem te15544591581418519986:tw15544591581418519986=0:=rfl
def tw14527754661608904590:=0
theorem te14527754661608904590:tw14527754661608904590=0:=rfl
def tw12124050991768012262:=0
theorem te12124050991768012262:tw12124050991768012262=0:=rfl
def tw17929534586682002279:=0
theorem te17929534586682002279:tw17929534586682002279=0:=rfl
end PySem.W.Fast
open PySem PySem.W PyProof.Rows
set_option maxRecDepth 100000 in
set_option maxHeartbeats 0 in
theorem PySem.Challenge.cw_mendsure_k73_formulas_or_rings_holds : PySem.Challenge.rw_mendsure_k73_formulas_or_rings.Holds := by
  w_on; o_law; k_head; (case hw => w_witness2)
  k_fill
  refine L2.M.My.walk (l := PySem.Challenge.rw_mendsure_k73_formulas_or_rings) rfl rfl (fun w h Y => PySem.W.kIn_of Y) ?F
  case F =>
    intro w mg b h KX G a
    refine' L2.M.My.all_mk KX G a ?_ ?_ ?_ ?_ ?_ ?_ ?_ ?_ ?_ ?_ ?_ ?_ ?_ ?_ ?_ ?_ ?_ ?_ ?_ ?_ ?_ ?_ ?_ ?_ ?_ ?_ ?_ ?_ ?_ ?_ ?_ ?_ ?_ ?_ ?_ ?_ ?_ ?_ ?_ ?_ ?_ ?_ ?_ ?_ ?_ ?_ ?_ ?_ ?_ ?_ ?_ ?_ ?_ ?_ ?_ ?_ ?_ ?_ ?_ ?_ ?_ ?_ ?_ ?_ ?_ ?_ ?_ ?_ ?_ ?_ ?_ ?_ ?_ ?_ ?_ ?_ ?_ ?_ ?_ ?_ ?_ ?_ ?_ ?_ ?_ ?_ ?_ ?_ ?_ ?_ ?_
    any_goals first | (exact L2.M.def_mk (by k_is) (by k_is) (by k_is) (by k_is) KX G) | (k_is) | (exact L2.M.xcl_mk (by k_is) (by k_is) rfl (by k_is) (by k_is) (by k_is) (by k_is) (by k_is) (by k_is) (by k_is) rfl) | (rfl) | (exact L2.M.xin_mk (by k_is) (by k_is) rfl (by k_is) (by k_is) (by k_is) (by k_is) (by k_is) (by k_is) (by k_is) (by k_is) rfl) | (exact ⟨by k_is, by k_is, by k_is⟩) | (decide) | (show PySem.W.nsIn _ _ _ = _; k_is)
