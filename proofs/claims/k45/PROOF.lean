import PyProof.Rows.All
import Wide.All
import OpenK.AllK
import Wide.FinOn
import Lean
import PyProof.EqAt
import PyProof.EqKinds
import PyProof.TupleCall
import PySem.Challenge.RW_mendsure_k45_good_books
set_option Elab.async false
set_option linter.all false
set_option hygiene false
set_option genSizeOf false
set_option compiler.extract_closed false
local macro_rules|`(↑6)=>`(model prog w)
local macro_rules|`(↑7)=>`(xs.length)
local macro_rules|`(↑8)=>`(∀b o,s.heap.get? b=some o->h'.get? b=some o)
local macro_rules|`(↑9)=>`(vs.length)
local macro_rules|`(↑10)=>`(vH ts o bs rs)
local macro_rules|`(↑11)=>`(ds.length)
local macro_rules|`(↑12)=>`( ∀b∈ch,(b∈X.ex\/X.s₀.heap.objs.size<=b)/\b≠X.env.locals/\(∀x c,X.env.cells.lookup x=some c->c≠b)/\ ∀p∈X.pn++pins,p.1≠b)
local macro_rules|`(↑13)=>`(List MV->Sto->R Er)
local macro_rules|`(↑14)=>`(.ListComp elt [⟨tg,iter,ifs,0⟩] sc pos)
local macro_rules|`(↑15)=>`(by decide)
local macro_rules|`(↑16)=>`(Keyed->Keyed->Bool)
local macro_rules|`(tactic|rw[20])=>`(tactic|show wpAny _ _ _ _ _ _)
local macro_rules|`(tactic|rw[21])=>`(tactic|intro X hP hw hK hc i pins s σ H E I hf st hg)
local macro_rules|`(tactic|rw[22])=>`(tactic|intro pins s σ H Q I h)
local macro_rules|`(tactic|rw[23])=>`(tactic|obtain⟨o,B⟩:=GU I j (A:=X.A.in1) (by show X.A.units+1+zO<cLine;unfold zO;lia) C F l r E)
local macro_rules|`(↑0)=>`(s.heap.objs.size)
local macro_rules|`(↑1)=>`(Inv X pins σ H s)
local macro_rules|`(↑2)=>`(S.length)
local macro_rules|`(↑3)=>`((e::es).length+([]:List Keyword).length+(if([]:List Keyword).isEmpty then 0 else 1)<30)
local macro_rules|`(↑4)=>`(rs.length)
local macro_rules|`(↑5)=>`(model X.prog X.w)
set_option maxRecDepth 100000
noncomputable section
set_option bootstrap.genMatcherCode false
open List (all_map all_toArray cons_lt_cons_iff drop_eq_getElem_cons drop_length drop_zero ext_getElem? filterMap_cons filterMap_cons_some find?_cons find?_some flatten_cons forIn_cons forIn_nil getD_eq_getElem?_getD getElem?_append_left getElem?_append_right getElem?_cons_succ getElem?_cons_zero getElem?_eq_none getElem?_map getElem?_of_mem getElem?_range getElem?_set_ne getElem?_set_self getElem_drop getElem_inj getElem_mem getElem_of_mem length_filterMap_le length_range length_zip length_zipIdx lookup_cons map_congr_left map_drop map_fst_zip map_snd_zip map_take mem_append_left mem_filterMap mem_map_of_mem mem_of_getElem? mem_range nodup_append nodup_cons nodup_nil of_mem_zip pairwise_map replicate_succ reverse_cons set_append_left set_append_right set_cons_succ take_length take_of_length_le zipIdx_nil zip_cons_cons zip_nil_left)
open Nat (add_assoc le_of_eq le_of_lt le_succ lt_irrefl lt_of_le_of_lt lt_trans min_eq_left min_eq_right mul_le_mul sub_self zero_le)
abbrev à:=@Nat.le_refl
abbrev á:=@PySem.Heap.get?_push_size
abbrev â:=@PySem.Heap.lt_size
abbrev ã:=@List.getElem?_append_left
abbrev ä:=@Nat.lt_of_lt_of_le
abbrev å:=@Nat.ne_of_lt
abbrev æ:=@List.getElem?_append_right
abbrev ç:=@List.map_cons
abbrev è:=@Option.some.inj
abbrev é:=@PySem.wpAny_call_entry
abbrev ê:=@Option.isSome_iff_exists
abbrev ë:=@List.getElem?_map
abbrev ì:=@List.mem_append
abbrev í:=@PySem.wpAny_callSpecial?_slot
abbrev î:=@Array.length_toList
abbrev ï:=@PySem.wpAny_field
abbrev ð:=@PySem.wpAny_holding
abbrev ñ:=@Array.getElem?_toList
abbrev ò:=@List.mem_of_getElem?
abbrev ó:=@Nat.le_trans
abbrev ô:=@List.forall_mem_cons
abbrev õ:=@PySem.Heap.get?_update_other
abbrev ö:=@PySem.wpAny_setField_rec
abbrev ø:=@Nat.ne_of_gt
abbrev ù:=@List.map_append
abbrev ú:=@List.length_range
abbrev û:=@List.mem_append_right
abbrev ü:=@List.all_eq_true
abbrev ý:=@PySem.sizeLine_eq
abbrev þ:=@PySem.wpAny_mono
abbrev ÿ:=@PySem.wpAny_loadPart'
abbrev Ā:=@PySem.wpAny_newObj_type
abbrev ā:=@Classical.choose_spec
abbrev Ă:=@List.map_map
abbrev ă:=@List.length_nil
abbrev Ą:=@List.set_append_right
abbrev ą:=@Int.toNat_natCast
abbrev Ć:=@List.length_set
abbrev ć:=@Option.map_eq_some_iff
abbrev Ĉ:=@beq_eq_false_iff_ne
abbrev ĉ:=@PyProof.Rows.callWith_type1
abbrev Ċ:=@PySem.wpAny_truthy_bool
abbrev ċ:=@PySem.wpAny_attempt
abbrev Č:=@PySem.wpAny_typeOf
abbrev č:=@PySem.F.slot_zip_next
abbrev Ď:=@PySem.codeAny_builtin
abbrev ď:=@PySem.Around.under_plainId
abbrev Đ:=@List.length_replicate
abbrev đ:=@List.getD_eq_getElem?_getD
abbrev Ē:=@List.mem_filter
abbrev ē:=@List.mem_range
abbrev Ĕ:=@List.getElem?_eq_none
abbrev ĕ:=@List.drop_eq_getElem_cons
abbrev Ė:=@PySem.wpAny_seqItems
abbrev ė:=@of_decide_eq_true
abbrev Ę:=@PySem.Heap.SameBut.update
abbrev ę:=@List.mem_append_left
abbrev Ě:=@PySem.wpAny_rule
abbrev ě:=@Array.getElem?_eq_getElem
abbrev Ĝ:=@PySem.wpAny_notOrdered_dict
abbrev ĝ:=@List.length_filter_le
abbrev Ğ:=@Nat.le_add_right
abbrev ğ:=@List.getElem?_cons_succ
abbrev Ġ:=@List.lookup_cons
abbrev ġ:=@PySem.plainId_quiet
abbrev Ģ:=@PySem.Heap.size_push
abbrev ģ:=@PySem.call_meets
abbrev Ĥ:=@List.getElem?_set_self
abbrev ĥ:=@List.take_of_length_le
abbrev Ħ:=@PySem.wpAny_dictEntries
abbrev ħ:=@List.getElem?_set_ne
abbrev Ĩ:=@List.length_drop
abbrev ĩ:=@PySem.wpAny_isInstance
abbrev Ī:=@PyProof.Rows.slot_tuple_getitem
abbrev ī:=@List.nil_append
abbrev Ĭ:=@PySem.wpAny_typeNameOfWhole_itemiter
abbrev ĭ:=@PySem.wpAny_pyIter_list
abbrev Į:=@Nat.lt_irrefl
abbrev į:=@List.zip_cons_cons
abbrev İ:=@PySem.wpAny_typeNameOfWhole_keyiter
abbrev ı:=@List.length_filterMap_le
abbrev Ĳ:=@List.filterMap_cons
abbrev ĳ:=@List.map_congr_left
abbrev Ĵ:=@PySem.wpAny_passesOwn
abbrev ĵ:=@List.set_append_left
abbrev Ķ:=@PySem.F.slot_tuple_iterator_next
abbrev ķ:=@PySem.F.args_zip_next_1
abbrev ĸ:=@Nat.lt_succ_of_lt
abbrev Ĺ:=@List.getElem?_eq_none_iff
abbrev ĺ:=@beq_iff_eq
abbrev Ļ:=@List.mem_of_find?_eq_some
abbrev ļ:=@List.length_zip
abbrev Ľ:=@List.getElem_mem
abbrev ľ:=@List.mem_map_of_mem
abbrev Ŀ:=@List.nodup_append
abbrev ŀ:=@List.filterMap_cons_none
abbrev Ł:=@PySem.F.entry_zip_next
abbrev ł:=@List.filterMap_cons_some
abbrev Ń:=@PySem.wpAny_getItem_str_slice
abbrev ń:=@List.length_eq_zero_iff
abbrev Ņ:=@PySem.wpAny_Call_Name_kw
abbrev ņ:=@List.foldl_cons
abbrev Ň:=@PySem.wpAny_specialOf
abbrev ň:=@PySem.wpAny_dictEpoch
abbrev ŉ:=@List.ext_getElem?
abbrev Ŋ:=@List.replicate_succ
abbrev ŋ:=@Nat.lt_of_le_of_lt
abbrev Ō:=PySem.Shared
abbrev ō:=PySem.Value
abbrev Ŏ:=PySem.Program
def q8{n:Nat}:n<=n:=Nat.le_refl n
def xF0:¬(false=true):=Bool.false_ne_true
def t1M{A:Type}{b a:A}{l:List A}:a∈b::a::l:=.tail _ (.head _)
def t2M{A:Type}{c b a:A}{l:List A}:a∈c::b::a::l:=(.tail _ (.tail _ (.head _)))
abbrev dF0:=@decide_eq_false
abbrev dT0:=@decide_eq_true
abbrev iP:=@if_pos
abbrev iN:=@if_neg
abbrev mC:=@List.mem_cons
abbrev lC:=@List.length_cons
abbrev mO:=@List.mem_cons_of_mem
abbrev lM:=@List.length_map
abbrev nM:=@List.not_mem_nil
abbrev mS:=@List.mem_singleton
abbrev mF0:=@List.mem_cons_self
abbrev fT0:=@Bool.false_eq_true
abbrev sA:=@List.size_toArray
abbrev lS:=@List.length_singleton
abbrev eL:=@Int.emod_lt_of_pos
abbrev eN:=@Int.emod_nonneg
abbrev aE:=@Bool.and_eq_true
abbrev iF:=@if_false
abbrev aN:=@List.append_nil
abbrev lA:=@List.length_append
abbrev gS:=@List.getElem?_eq_some_iff
abbrev gE:=@List.getElem?_eq_getElem
abbrev wB:=@PySem.wpAny_bind
abbrev wP:=@PySem.wpAny_pure
abbrev hP0:=@PySem.Heap.get?_push_of_some
abbrev mM:=@List.mem_map
abbrev lT:=@List.length_take
abbrev aA:=@List.append_assoc
abbrev VP:=PySem.Value->PySem.Shared->Prop
abbrev O0:=PySem.W.Frag
abbrev N0:=List PySem.Expr
abbrev M0:=Option Int
abbrev L1:=List Bool
abbrev L0:=List (PySem.Addr×PySem.Obj)
abbrev K0:=Array (Int×PySem.Value)
abbrev G0:=PySem.Str->Option PySem.Value
abbrev D0:=List PySem.Str
abbrev B9:=List PySem.Addr
abbrev B0:=Array PySem.Value
abbrev A0:=List PySem.Value
abbrev Za:=List Int
abbrev Tk:=List (Int×Int)
abbrev Db:=List Nat
abbrev Ch:=List (List Nat)
set_option bootstrap.genMatcherCode true in
local macro_rules
 |`(#[0])=>`(by lia)
abbrev ŏ:="_law_well"
abbrev Ő:="_law_tables_here"
abbrev ő:="_law_pool_here"
abbrev Œ:="_law_script"
abbrev œ:="_law_atoms_here"
abbrev Ŕ:="_law_names_here"
abbrev ŕ:="_law_k"
abbrev Ŗ:="_law_many"
abbrev ŗ:="_law_rows_here"
abbrev Ř:="_law_word_here"
abbrev ř:="_law_question"
abbrev Ś:="_law_most"
abbrev ś:="_law_answer"
abbrev Ŝ:="_law_cells"
abbrev ŝ:="_law_book"
abbrev Ş:="_law_t"
set_option bootstrap.genMatcherCode true in
set_option bootstrap.genMatcherCode true in
local macro_rules(kind:=«term{_}»)
 |s=>let a:Lean.TSyntaxArray (`term):=s[1].getSepArgs.map (⟨·⟩);`(⟨$a,*⟩)
section
variable{α β γ δ ε ζ η θ ι κ μ ν ξ π:Type}{R:Prop}
@[elab_as_elim]theorem qq{α:Sort u}{a b:α}{P:α->Prop}(h:a=b)(e:P b):P a:=h▸e
theorem byc{P:Prop}(h:(P->False)->False):P:=Classical.byContradiction h
theorem And.f{A B C:Prop}(h:A/\B/\C)(k:A->B->C->R):R:=h.elim λa h=>h.elim (k a)
theorem And.g{A B C D:Prop}(h:A/\B/\C/\D)(k:A->B->C->D->R):R:=h.elim λa h=>h.f (k a)
theorem And.p{A B C D E:Prop}(h:A/\B/\C/\D/\E)(k:A->B->C->D->E->R):R:=h.elim λa h=>h.g (k a)
theorem And.e{A B C D E F:Prop}(h:A/\B/\C/\D/\E/\F)(k:A->B->C->D->E->F->R):R:=h.elim λa h=>h.p (k a)
theorem And.w{A B C D E F G:Prop}(h:A/\B/\C/\D/\E/\F/\G)(k:A->B->C->D->E->F->G->R):R:=h.elim λa h=>h.e (k a)
theorem And.t{A B C D E F G H:Prop}(h:A/\B/\C/\D/\E/\F/\G/\H)(k:A->B->C->D->E->F->G->H->R):R:=h.elim λa h=>h.w (k a)
theorem And.s{A B C D E F G H I:Prop}(h:A/\B/\C/\D/\E/\F/\G/\H/\I)(k:A->B->C->D->E->F->G->H->I->R):R:=h.elim λa h=>h.t (k a)
theorem Exists.k{A:α->β->Prop}(h: ∃x y,A x y)(k: ∀x y,A x y->R):R:=h.elim λ_ h=>h.elim (k _)
theorem Exists.h{A:α->β->γ->Prop}(h: ∃x y z,A x y z)(k: ∀x y z,A x y z->R):R:=h.elim λ_ h=>h.k (k _)
theorem Exists.j{A:α->β->γ->δ->Prop}(h: ∃x y z u,A x y z u)(k: ∀x y z u,A x y z u->R):R:=h.elim λ_ h=>h.h (k _)
theorem Exists.q{A:α->β->γ->δ->ε->Prop}(h: ∃x y z u v,A x y z u v)(k: ∀x y z u v,A x y z u v->R):R:=h.elim λ_ h=>h.j (k _)
theorem Exists.u{A:α->β->γ->δ->ε->ζ->Prop}(h: ∃x y z u v w,A x y z u v w)(k: ∀x y z u v w,A x y z u v w->R):R:=h.elim λ_ h=>h.q (k _)
theorem Exists.v{A:α->β->γ->δ->ε->ζ->η->Prop}(h: ∃x y z u v w p,A x y z u v w p)(k: ∀x y z u v w p,A x y z u v w p->R):R:=h.elim λ_ h=>h.u (k _)
theorem Exists.z{A:α->β->γ->δ->ε->ζ->η->θ->Prop}(h: ∃x y z u v w p q,A x y z u v w p q)(k: ∀x y z u v w p q,A x y z u v w p q->R):R:=h.elim λ_ h=>h.v (k _)
theorem Exists.x{A:α->β->γ->δ->ε->ζ->η->θ->ι->Prop}(h: ∃x y z u v w p q r,A x y z u v w p q r)(k: ∀x y z u v w p q r,A x y z u v w p q r->R):R:=h.elim λ_ h=>h.z (k _)
theorem Exists.y{A:α->β->γ->δ->ε->ζ->η->θ->ι->κ->μ->ν->ξ->π->Prop}(h: ∃x y z u v w p q r s t a b c,A x y z u v w p q r s t a b c)(k: ∀x y z u v w p q r s t a b c,A x y z u v w p q r s t a b c->R):R:=h.elim λ_ h=>h.elim λ_ h=>h.elim λ_ h=>h.elim λ_ h=>h.elim λ_ h=>h.x (k _ _ _ _ _)
theorem Exists.a{A B:α->Prop}(h: ∃x,A x/\B x)(k: ∀x,A x->B x->R):R:=h.elim λ_ h=>h.elim (k _)
theorem Exists.c{A B C:α->Prop}(h: ∃x,A x/\B x/\C x)(k: ∀x,A x->B x->C x->R):R:=h.elim λ_ h=>h.f (k _)
theorem Exists.d{A B:α->β->Prop}(h: ∃x y,A x y/\B x y)(k: ∀x y,A x y->B x y->R):R:=h.k λ_ _ h=>h.elim (k _ _)
theorem Exists.b{A B C:α->β->Prop}(h: ∃x y,A x y/\B x y/\C x y)(k: ∀x y,A x y->B x y->C x y->R):R:=h.k λ_ _ h=>h.f (k _ _)
theorem Exists.l{A B C D:α->β->Prop}(h: ∃x y,A x y/\B x y/\C x y/\D x y)(k: ∀x y,A x y->B x y->C x y->D x y->R):R:=h.k λ_ _ h=>h.g (k _ _)
theorem Exists.n{A B C D E:α->β->Prop}(h: ∃x y,A x y/\B x y/\C x y/\D x y/\E x y)(k: ∀x y,A x y->B x y->C x y->D x y->E x y->R):R:=h.k λ_ _ h=>h.p (k _ _)
theorem Exists.m{A B:α->β->γ->Prop}(h: ∃x y z,A x y z/\B x y z)(k: ∀x y z,A x y z->B x y z->R):R:=h.h λ_ _ _ h=>h.elim (k _ _ _)
theorem Exists.i{A B C D E:α->β->γ->Prop}(h: ∃x y z,A x y z/\B x y z/\C x y z/\D x y z/\E x y z)(k: ∀x y z,A x y z->B x y z->C x y z->D x y z->E x y z->R):R:=h.h λ_ _ _ h=>h.p (k _ _ _)
theorem Exists.o{A B C D E:α->β->γ->δ->Prop}(h: ∃x y z u,A x y z u/\B x y z u/\C x y z u/\D x y z u/\E x y z u)(k: ∀x y z u,A x y z u->B x y z u->C x y z u->D x y z u->E x y z u->R):R:=h.j λ_ _ _ _ h=>h.p (k _ _ _ _)
theorem Exists.r{A B C D E:α->β->γ->δ->ε->Prop}(h: ∃x y z u v,A x y z u v/\B x y z u v/\C x y z u v/\D x y z u v/\E x y z u v)(k: ∀x y z u v,A x y z u v->B x y z u v->C x y z u v->D x y z u v->E x y z u v->R):R:=h.q λ_ _ _ _ _ h=>h.p (k _ _ _ _ _)
theorem Z3{A B:α->Prop}(x)(h0:A x)(h1:B x): ∃x,A x/\B x:={_,h0,h1}
theorem Z0{A B C:α->Prop}(x)(h0:A x)(h1:B x)(h2:C x): ∃x,A x/\B x/\C x:={_,h0,h1,h2}
theorem Y6{A:α->β->Prop}(x y)(h:A x y): ∃x y,A x y:={_,_,h}
theorem ZX{A B:α->β->Prop}(x y)(h0:A x y)(h1:B x y): ∃x y,A x y/\B x y:={_,_,h0,h1}
theorem Z2{A B C:α->β->Prop}(x y)(h0:A x y)(h1:B x y)(h2:C x y): ∃x y,A x y/\B x y/\C x y:={_,_,h0,h1,h2}
theorem Zo{A B C D:α->β->Prop}(x y)(h0:A x y)(h1:B x y)(h2:C x y)(h3:D x y): ∃x y,A x y/\B x y/\C x y/\D x y:={_,_,h0,h1,h2,h3}
theorem Ys{A B C D E:α->β->Prop}(x y)(h0:A x y)(h1:B x y)(h2:C x y)(h3:D x y)(h4:E x y): ∃x y,A x y/\B x y/\C x y/\D x y/\E x y:={_,_,h0,h1,h2,h3,h4}
theorem Zj{A:α->β->γ->Prop}(x y z)(h:A x y z): ∃x y z,A x y z:={_,_,_,h}
theorem YX{A B:α->β->γ->Prop}(x y z)(h0:A x y z)(h1:B x y z): ∃x y z,A x y z/\B x y z:={_,_,_,h0,h1}
theorem Ze{A B C D:α->β->γ->Prop}(x y z)(h0:A x y z)(h1:B x y z)(h2:C x y z)(h3:D x y z): ∃x y z,A x y z/\B x y z/\C x y z/\D x y z:={_,_,_,h0,h1,h2,h3}
theorem Y4{A B C D E:α->β->γ->Prop}(x y z)(h0:A x y z)(h1:B x y z)(h2:C x y z)(h3:D x y z)(h4:E x y z): ∃x y z,A x y z/\B x y z/\C x y z/\D x y z/\E x y z:={_,_,_,h0,h1,h2,h3,h4}
theorem ZB{A:α->β->γ->δ->Prop}(x y z u)(h:A x y z u): ∃x y z u,A x y z u:={_,_,_,_,h}
theorem Yi{A:α->β->γ->δ->ε->Prop}(x y z u v)(h:A x y z u v): ∃x y z u v,A x y z u v:={_,_,_,_,_,h}
theorem Yq{A B C D E F:α->β->γ->δ->ε->Prop}(x y z u v)(h0:A x y z u v)(h1:B x y z u v)(h2:C x y z u v)(h3:D x y z u v)(h4:E x y z u v)(h5:F x y z u v): ∃x y z u v,A x y z u v/\B x y z u v/\C x y z u v/\D x y z u v/\E x y z u v/\F x y z u v:={_,_,_,_,_,h0,h1,h2,h3,h4,h5}
theorem XV{A:α->β->γ->δ->ε->ζ->Prop}(x y z u v w)(h:A x y z u v w): ∃x y z u v w,A x y z u v w:={_,_,_,_,_,_,h}
theorem Yg{A:α->β->γ->δ->ε->ζ->η->Prop}(x y z u v w p)(h:A x y z u v w p): ∃x y z u v w p,A x y z u v w p:={_,_,_,_,_,_,_,h}
theorem Xy{A:α->β->γ->δ->ε->ζ->η->θ->Prop}(x y z u v w p q)(h:A x y z u v w p q): ∃x y z u v w p q,A x y z u v w p q:={_,_,_,_,_,_,_,_,h}
theorem XL{A:α->β->γ->δ->ε->ζ->η->θ->ι->Prop}(x y z u v w p q r)(h:A x y z u v w p q r): ∃x y z u v w p q r,A x y z u v w p q r:={_,_,_,_,_,_,_,_,_,h}
end
namespace L2
open PySem PySem.Spec PyProof.Rows
abbrev Key:=Sum Int Str
noncomputable def rC:Key->ō->Bool
 |.inl k,v=>Value.isInt k v
 |.inr x,v=>Value.isStrOf x v
noncomputable def zBL(w:World):Key->Int
 |.inl k=>hashInt k
 |.inr x=>hashStr w x
def yD: ∀{k}{v},rC k v=true->(∃i t,k=Sum.inl i/\v=Value.int i t)\/(∃x t,k=Sum.inr x/\v=Value.str x t)
 |.inl i,v,h=>by obtain⟨t,e⟩:=Value.isInt_shape h;exact .inl (ZX i t rfl e)
 |.inr x,v,h=>by obtain⟨t,e⟩:=Value.isStrOf_shape h;exact .inr (ZX x t rfl e)
def D3(a b):decide ((Sum.inl a:Key)=Sum.inl b)=(a==b):=by
 by_cases e:a=b
 .subst e;simp
 .have h: ¬(Sum.inl a:Key)=Sum.inl b:=λq=>e (Sum.inl.inj q);rw[dF0 h];exact(Ĉ.mpr e).symm
def D5(a b):decide ((Sum.inr a:Key)=Sum.inr b)=decide (a=b):=by
 by_cases e:a=b
 .subst e;simp
 .have h: ¬(Sum.inr a:Key)=Sum.inr b:=λq=>e (Sum.inr.inj q);rw[dF0 h,dF0 e]
def D6(a)(b):decide ((Sum.inl a:Key)=Sum.inr b)=false:=dF0 (λq=>nomatch q)
def D7(a)(b):decide ((Sum.inr a:Key)=Sum.inl b)=false:=dF0 (λq=>nomatch q)
def wX(prog)(w):PySem.KeyKind prog w Key where
 is:=rC
 hash:=zBL w
 inj:=λv a b ha hb=>by
  rcases yD ha with⟨i,t,rfl,rfl⟩|⟨x,t,rfl,rfl⟩
  .rcases yD hb with⟨j,u,rfl,e⟩|⟨y,u,rfl,e⟩
   .injection e with e1 _;rw[e1]
   .exact nomatch e
  .rcases yD hb with⟨j,u,rfl,e⟩|⟨y,u,rfl,e⟩
   .exact nomatch e
   .injection e with e1 _;rw[e1]
 byValue:=λk v h=>by rcases yD h with⟨i,t,rfl,rfl⟩|⟨x,t,rfl,rfl⟩<;>rfl
 pyHash:=λhv h=>by
  rcases yD hv with⟨i,t,rfl,rfl⟩|⟨x,t,rfl,rfl⟩
  .exact wpAny_pyHash_int h
  .exact wpAny_pyHash_str h
 eqBool:=λhu hv h=>by
  rcases yD hu with⟨i,t,rfl,rfl⟩|⟨x,t,rfl,rfl⟩
  .rcases yD hv with⟨j,u,rfl,rfl⟩|⟨y,u,rfl,rfl⟩
   .rw[D3]at h;exact wpAny_eqBool_int h
   .rw[D6]at h;exact SeqAt.EqAt.int_str i t y u _ _ _ _ h
  .rcases yD hv with⟨j,u,rfl,rfl⟩|⟨y,u,rfl,rfl⟩
   .rw[D7]at h;exact SeqAt.EqAt.str_int x t j u _ _ _ _ h
   .rw[D5]at h;exact wpAny_eqBool_str h
 «strs»:=λk x t v h=>by
  rcases yD h with⟨i,u,rfl,e⟩|⟨y,u,rfl,e⟩
  .exact nomatch e
  .injection e with e1 _
   subst e1;cases v<;>rfl
def KG(prog)(w)(i)(t):(wX prog w).is (.inl i) (.int i t)=true:=(show rC (.inl i) (.int i t)=true by simp[rC,Value.isInt])
def vP(prog)(w)(x)(t):(wX prog w).is (.inr x) (.str x t)=true:=(show rC (.inr x) (.str x t)=true by simp[rC,Value.isStrOf])
inductive V where
 |non|bl (b:Bool)|int (i:Int)|str (x:Str)|byt (b:Array UInt8)|flt (b:UInt64)|ref (a:Addr)|ty (n:String)
 deriving DecidableEq
def RelV:V->ō->Prop
 |.non,u=>u=Value.none
 |.bl b,u=>u=Value.bool b
 |.int i,u=> ∃t,u=Value.int i t
 |.str x,u=> ∃t,u=Value.str x t
 |.byt b,u=> ∃t,u=Value.bytes b t
 |.flt b,u=> ∃t,u=Value.float b t
 |.ref a,u=>u=Value.ref a
 |.ty n,u=>u=Value.type n
abbrev Vals:List V->List Value->Prop:=Paired RelV
def Vals.length(r:Vals xs us):↑7=us.length:=Paired.length r
def Vals.get(q:Vals xs us): ∀{i:Nat}{x},xs[i]? =some x-> ∃u,us[i]? =some u/\RelV x u:=by
 induction q with
 |nil=>intro i x e;cases e
 |cons r t ih=>
  intro i x e
  cases i with
  |zero=>cases e;exact Z3 _ rfl r
  |succ i=>exact ih e
theorem Vals.set(r:RelV x u): ∀{xs}{us} i ,Vals xs us->Vals (xs.set i x) (us.set i u)
 |_,_,_,.nil=>.nil
 |_,_,0,.cons _ t=>.cons r t
 |_,_,i+1,.cons q t=>.cons q (Vals.set r i t)
def Vals.append: ∀{xs ys}{us j},Vals xs us->Vals ys j->Vals (xs++ys) (us++j):=λa=>by
 induction a with
 |nil=>exact(λs=>s)
 |cons r t ih=>exact(λs=>.cons r (ih s))
theorem Vals.take: ∀{xs}{us} n ,Vals xs us->Vals (xs.take n) (us.take n)
 |_,_,0,_=>.nil
 |_,_,_+1,.nil=>.nil
 |_,_,n+1,.cons r t=>.cons r (Vals.take n t)
theorem Vals.drop: ∀{xs}{us} n ,Vals xs us->Vals (xs.drop n) (us.drop n)
 |_,_,0,r=>r
 |_,_,_+1,.nil=>.nil
 |_,_,n+1,.cons _ t=>Vals.drop n t
theorem Vals.none_of: ∀{xs}{us}{i:Nat},Vals xs us->xs[i]? =none->us[i]? =none:=λ{xs us i} r e=>by have a:=r.length;have b:=Ĺ.mp e;exact Ĺ.mpr #[0]
def RelO:Option V->Option ō->Prop
 |some v,some u=>RelV v u
 |none,none=>True
 |_,_=>False
def KV{a:Type}:List (a×V)->List (a×ō)->Prop:=Paired λ(p:a×V) (q:a×ō)=>p.1=q.1/\RelV p.2 q.2
noncomputable def kV:Key->V
 |.inl i=>.int i
 |.inr x=>.str x
inductive HO where
 |lst (xs:List V)
 |tup (xs:List V)
 |dK (kvs:List (Key×V))|dT (kvs:List (List Key×V))
 |set (S:Int->Bool) (n:Nat)
 |ins (C dx:Addr) (fs:List (Str×V))
 |own (x:Addr)
 |xd (fs:List (Str×V))
 |met (f x:Addr)
 |rng (lo hi:Int)
 |frz (o:Obj) (u:HO)
 |tbl (ps:B0)
 |ext (φ:Heap->Prop)
abbrev Hp:=Addr->Option HO
noncomputable def yP(H:Hp)(a:Addr)(o:HO):Hp:=λb=>if b=a then some o else H b
def zM:yP H a o a=some o:=by unfold yP;rw[iP rfl]
def zH(h:b≠a):yP H a o b=H b:=by unfold yP;rw[iN h]
theorem El:yP (yP H a o) a u=yP H a u:=by funext b;unfold yP;split<;>rfl
def zQ{H:Hp}(h:H a=some o)(h':H b=none):a≠b:=by intro e;subst e;rw[h]at h';cases h'
def zBM(o:Obj)(u:ō):Prop:= ∃vs q t a,o.data=.fields vs/\vs[1]? =some (.str q t)/\u=.str q a
section
variable(P:Ŏ)(w:World)
def ObjOk(H:Hp)(h:Heap)(a:Addr):HO->Prop
 |.lst xs=>xs.length<=sizeLine/\ ∃(j:A0)(n:Nat),Vals xs j/\h.get? a=some {cls:=.type "list",data:=.seq j.toArray n}
 |.tup xs=>xs.length<=sizeLine/\ ∃j:List ō,Vals xs j/\IsTup h a j.toArray
 |.dK kvs=>kvs.length<=sizeLine/\(a==sysModules)=false/\ ∃vs,KV kvs vs/\h.DictOf (wX P w) a vs
 |.dT kvs=>kvs.length<=sizeLine/\(a==sysModules)=false/\ ∃xs:List (List Key×Addr×ō),
   Paired (λ(p:List Key×V) (q:List Key×Addr×ō)=>p.1=q.1/\H q.2.1=some (.tup (p.1.map kV))/\RelV p.2 q.2.2) kvs xs/\
   ∃o es I,h.get? a=some o/\o.ExactDict/\o.data=.dict es I/\es.toList=xs.map (entryOfKey (tupleKind (wX P w)))/\(xs.map (·.1)).Nodup
 |.set S n=>h.SetOf (intKind P w) a S n
 |.ins C dx fs=>H dx=some (.own a)/\fs.length<=1000/\dx≠a/\h.get? a=some (PySem.W.instObj C dx)/\
   ∃m,h.Ns1 dx m/\(∀f,RelO (fs.lookup f) (m f))/\PySem.Within m (fs.map (·.1))
 |.own _=> ∃o,h.get? a=some o
 |.xd fs=> ∃m,h.Ns1 a m/\ ∀f,RelO (fs.lookup f) (m f)
 |.rng lo hi=> ∃t u v,h.get? a=some {cls:=.type "range",data:=.fields #[.int lo t,.int hi u,.int 1 v]}
 |.frz o u=>h.get? a=some o/\ObjOk H h a u
 |.tbl ps=> ∃us,h.get? a=some {cls:=.none,data:=.fields us}/\(us=#[]\/ ∃c B,us=#[(ps[0]?).getD .none,(ps[1]?).getD .none,.ref c]/\H c=some (.frz B (.ext λh=>h.get? c=some B))/\zBM B ((ps[2]?).getD .none))
 |.met f x=>h.get? a=some (PySem.W.methodObj (.ref f) (.ref x))
 |.ext φ=>φ h/\(∃o,h.get? a=some o)/\ ∀G D:Heap,φ G->(∀o,G.get? a=some o->D.get? a=some o)->φ D
def HOk(H:Hp)(h:Heap):Prop:= ∀a o,H a=some o->ObjOk P w H h a o
end
section
variable{a:Addr}{o:HO}
def ObjOk.lt(x:ObjOk P w H h a o):a<h.objs.size:=by
 cases o with
 |lst xs=>obtain⟨_,_,_,_,e⟩:=x;exact â e
 |tup xs=>obtain⟨_,_,_,p⟩:=x;exact p.lt
 |dK kvs=>obtain⟨_,_,_,_,o,_,_,e,_⟩:=x;exact â e
 |dT kvs=>obtain⟨_,_,_,_,o,_,_,e,_⟩:=x;exact â e
 |set S n=>refine x.j λo _ _ _ b=>b.elim λe _=>?_;exact â e
 |ins C dx fs=>refine x.p λ_ _ _ e _=>?_;exact â e
 |own y=>obtain⟨_,e⟩:=x;exact â e
 |xd fs=>obtain⟨_,⟨_,_,_,e,_⟩,_⟩:=x;exact â e
 |rng lo hi=>refine x.h λ_ _ _ e=>?_;exact â e
 |frz ob u=>obtain⟨e,_⟩:=x;exact â e
 |tbl ps=>refine x.a λ_ e _=>?_;exact â e
 |met f y=>exact â x
 |ext φ=>refine x.f λ_ j _=>?_;obtain ⟨_,e⟩:=j;exact â e
def Paired.mapP: ∀{j}{l₂:List β},Paired F j l₂->(∀a b,F a b->G a b)->Paired G j l₂:=λc=>by
 induction c with
 |nil=>exact(λ_=>.nil)
 |cons r t ih=>exact(λf=>.cons (f _ _ r) (ih f))
def ObjOk.stay(x:ObjOk P w H h a o)(k: ∀b u,(b=a\/H b=some (.own a))->h.get? b=some u->h'.get? b=some u)
  (ho: ∀b,H b=some (.own a)->H' b=some (.own a)) (ht: ∀b xs,H b=some (.tup xs)->H' b=some (.tup xs)) (hf: ∀b o u,H b=some (.frz o u)->H' b=some (.frz o u)):ObjOk P w H' h' a o:=by
 induction o with
 |lst xs=>obtain⟨z,m,n,r,e⟩:=x;exact{z,m,n,r,k _ _ (.inl rfl) e}
 |tup xs=>obtain⟨z,m,r,ob,e,c⟩:=x;exact{z,m,r,ob,k _ _ (.inl rfl) e,c}
 |dK kvs=>obtain⟨z,y,vs,r,ob,es,j,e,c⟩:=x;exact{z,y,vs,r,ob,es,j,k _ _ (.inl rfl) e,c}
 |dT kvs=>
  obtain⟨z,y,xs,r,ob,es,j,e,c⟩:=x;exact{z,y,xs,Paired.mapP r λp q z=>{z.1,ht _ _ z.2.1,z.2.2},ob,es,j,k _ _ (.inl rfl) e,c}
 |set S n=>refine x.j λob es j t I=>I.elim λe c=>?_;exact ZB ob es j t {k _ _ (.inl rfl) e,c}
 |ins C dx fs=>
  obtain⟨d,z,ne,e,s,⟨A,es,j,B,c⟩,r⟩:=x;exact{ho _ d,z,ne,k _ _ (.inl rfl) e,s,(YX A es j (k _ _ (.inr d) B) c),r}
 |own y=>obtain⟨ob,e⟩:=x;exact{ob,k _ _ (.inl rfl) e}
 |xd fs=>obtain⟨s,⟨A,es,j,e,c⟩,r⟩:=x;exact Z3 s (YX A es j (k _ _ (.inl rfl) e) c) r
 |rng lo hi=>refine x.h λt u v e=>?_;exact Zj t u v (k _ _ (.inl rfl) e)
 |frz ob u ih=>obtain⟨e,q⟩:=x;exact{k _ _ (.inl rfl) e,ih q}
 |tbl ps=>
  refine x.a λF e r=>?_;exact{F,k a _ (.inl rfl) e,r.imp id λ⟨c,G,D,B,E⟩=>(Z2 c G D (hf _ _ _ B) E)}
 |met f y=>
  have e:h.get? a=some _:=x;show h'.get? a=some _;exact k a _ (.inl rfl) e
 |ext φ=>refine x.f λp J st=>?_;obtain ⟨o,e⟩:=J;exact{st _ _ p λo q=>k _ _ (.inl rfl) q,{o,k _ _ (.inl rfl) e},st}
def HOk.lt(x:HOk P w H h)(e:H a=some o):a<h.objs.size:=(x a o e).lt
def HOk.fresh(x:HOk P w H h)(e:h.objs.size<=a):H a=none:=by
 cases q:H a with
 |none=>rfl
 |some u=>exact absurd (ä (x.lt q) e) (Į _)
def HOk.kept(x:HOk P w H h)(k: ∀b u,h.get? b=some u->h'.get? b=some u):HOk P w H h':=λa o e=>
 (x a o e).stay (λb u _ q=>k b u q) (λ_ q=>q) (λ_ _ q=>q) λ_ _ _ q=>q
def HOk.laid(x:HOk P w H h)(k: ∀b u,h.get? b=some u->h'.get? b=some u)(s:h.objs.size<=a)(new:ObjOk P w (yP H a o) h' a o):HOk P w (yP H a o) h':=λb u e=>by
 have j:=x.fresh s;by_cases m:b=a
 .subst m;rw[zM]at e;cases e;exact new
 .rw[zH m]at e;exact(x b u e).stay (λc v _ q=>k c v q) (λc q=>by rw[zH (zQ q j)];exact q) (λc xs q=>by rw[zH (zQ q j)];exact q) λc ob xs q=>by rw[zH (zQ q j)];exact q
end
def Rd(H:Hp)(a:Addr)(u:HO):Prop:=H a=some u\/ ∃o,H a=some (.frz o u)
def Rd.ok(r:Rd H a u)(x:HOk P w H h):ObjOk P w H h a u:=by
 rcases r with r|⟨o,r⟩
 .exact x a u r
 .obtain⟨_,q⟩:=x a _ r;exact q
def D8:Option HO->Prop
 |some (.lst _)=>True
 |some (.dK _)=>True
 |some (.dT _)=>True
 |some (.set _ _)=>True
 |some (.ins _ _ _)=>True
 |some (.ext _)=>True
 |_=>False
section
theorem HOk.write(ok:HOk P w H h)(m:D8 (H x))(C:e=x\/H e=some (.own x))(k: ∀b u,b≠e->h.get? b=some u->h'.get? b=some u)(A: ∃u,h'.get? e=some u)
  (new:ObjOk P w (yP H x o') h' x o'):HOk P w (yP H x o') h':=λb u q=>by
 have j: ∀c y,H c=some (.own y)->c≠x:=λc y r z=>by subst z;rw[r]at m;exact m
 by_cases s:b=x
 .subst s;rw[zM]at q;cases q;exact new
 .rw[zH s]at q;by_cases a:b=e
  .have B:H b=some (.own x):=by
    rcases C with z|z
    .exact absurd (a.trans z) s
    .rw[a];exact z
   rw[q]at B;cases B;obtain⟨v,D⟩:=A;exact{v,by rw[a];exact D}
  .refine(ok b u q).stay (λc v o r=>k c v ?_ r) (λc r=>by rw[zH (j c b r)];exact r) (λc xs r=>by rw[zH ((λc xs r z=>by subst z;rw[r]at m;exact m) c xs r)];exact r) λc ob v r=>by rw[zH λz=>by subst z;rw[r]at m;exact m];exact r
   rcases o with rfl|o
   .exact a
   .rintro rfl;rcases C with z|z
    .exact j c b o z
    .rw[o]at z;cases z;exact s rfl
end
structure Un(fs ex:B9)(H H':Hp)(h h':Heap):Prop where
 keep: ∀b o,h.get? b=some o->H b=none->b∉fs->b∉ex->h'.get? b=some o
 slot: ∀b o,h.get? b=some o->H b=none->b∈fs->b∉ex-> ∃sl,h'.get? b=some {o with slots:=sl}
 free: ∀b o,h.get? b=some o->H b=none->b∉ex->H' b=none
 there: ∀b o,h.get? b=some o->b∉ex-> ∃o',h'.get? b=some o'
 tups: ∀b xs,H b=some (.tup xs)->H' b=some (.tup xs)
 frzs: ∀b o u,H b=some (.frz o u)->H' b=some (.frz o u)
 tbls: ∀b ps,H b=some (.tbl ps)->H' b=some (.tbl ps)
section
variable{h:Heap}{a:Addr}
def Un.any(u:Un fs ex H H1 h h1)(q:h.get? b=some ob)(n:H b=none)(c:b∉ex): ∃sl,h1.get? b=some {ob with slots:=sl}:=by
 by_cases a:b∈fs
 .exact u.slot b ob q n a c
 .exact{_,u.keep b ob q n a c}
def Un.kept(k: ∀b u,h.get? b=some u->h'.get? b=some u):Un fs ex H H h h':=
 {λb ob q _ _ _=>k b ob q,λb ob q _ _ _=>{_,k b ob q},λ_ _ _ n _=>n,λb ob q _=>{ob,k b ob q},λ_ _ q=>q,λ_ _ _ q=>q,λ_ _ q=>q}
def Un.refl:Un fs ex H H h h:=Un.kept λ_ _ q=>q
def Un.laid(k: ∀b u,h.get? b=some u->h'.get? b=some u)(hp:h.objs.size<=a)(hn:H a=none):Un fs ex H (yP H a o) h h' where
 keep:=λb u q _ _ _=>k b u q
 slot:=λb u q _ _ _=>{_,k b u q}
 free:=λb u q n _=>by rw[zH (å (ä (â q) hp))];exact n
 there:=λb u q _=>{u,k b u q}
 tups:=λb xs q=>by rw[zH (zQ q hn)];exact q
 frzs:=λb u xs q=>by rw[zH (zQ q hn)];exact q
 tbls:=λb ps q=>by rw[zH (zQ q hn)];exact q
def Un.write(c:D8 (H x))(y:e=x\/H e=some (.own x))(k: ∀b u,b≠e->h.get? b=some u->h'.get? b=some u)(j: ∃u,h'.get? e=some u):Un fs ex H (yP H x o) h h':=by
 have v: ∀b,H b=none->b≠x:=λb n z=>by subst z;rw[n]at c;exact c
 have s: ∀b,H b=none->b≠e:=λb n z=>by
  subst z;rcases y with r|r
  .exact v b n r
  .rw[n]at r;cases r
 have m: ∀b u,H b=some u-> ¬D8 (some u)->b≠x:=λb u q w z=>by subst z;rw[q]at c;exact w c
 refine{λb u q n _ _=>k b u (s b n) q,λb u q n _ _=>{_,k b u (s b n) q},λb u q n _=>by rw[zH (v b n)];exact n,λb u q _=>?_,
  λb xs q=>by rw[zH (m b _ q λz=>z)];exact q,λb u xs q=>by rw[zH (m b _ q λz=>z)];exact q,λb ps q=>by rw[zH (m b _ q λz=>z)];exact q}
 by_cases a:b=e
 .subst a;exact j
 .exact{u,k b u a q}
end
noncomputable def trk(h:Heap)(H:Hp):List Addr:=(List.range h.objs.size).filter λa=>(H a).isSome
def Hw(h:Heap)(H:Hp):Heap:=PySem.W.hideAll h (trk h H)
def Sf(e:(Hw h H).get? b=some o):h.get? b=some o/\H b=none:=by
 have a:=PySem.W.of_hideAll _ e;refine{a,?_}
 cases q:H b with
 |none=>rfl
 |some x=>
  have z:(Hw h H).get? b=none:=PySem.W.hideAll_none _ (Ē.mpr {ē.mpr (â a),by simp[q]});rw[z]at e;cases e
noncomputable def Sh(g h:Heap)(L:Addr):List (Addr×Obj):=(List.range h.objs.size).filterMap λa=>if a=L\/(g.get? a).isSome=true then none else(h.get? a).map λo=>(a,o)
def rest(g h:Heap)(L d:Addr):List (Addr×Obj):=(Sh g h L).filter λp=>decide (p.1≠d)
structure Mod(K:O0)(mg:G0)(base:Heap):Prop where
 kin:K.In base
 glob:base.Ns mainGlobals mg
 blt: ∃mb,base.Ns builtinsNs mb/\ ∀x:Str,x≠"__name__"->mb x=bootBuiltins x
 nolimit:base.NoLimit
 bmain: ∃bm ob,mg "__builtins__"=some (.ref bm)/\bm≠builtinsNs/\base.get? bm=some ob/\ob.cls=.type "module"/\ob.dict=some builtinsNs/\ob.data=.plain
noncomputable def EN(P:Ŏ):List (Str×Array ō):=P.main.body.filterMap λ
 |.FunctionDef x _ body _ _ _ _ _ _ _=>body.findSome? λ
  |.FunctionDef n _ _ _ _ _ _ _ _ pos=>some (x,#[rawInt pos.line,rawInt pos.col,.str (x++".<locals>."++n) 0])
  |_=>none
 |_=>none
def tabAt(P:Ŏ)(K:O0)(b:Addr):Option (Array ō):=((EN P).find? λe=>(PySem.W.tabIn K e.1).map (·.2)==some b).map (·.2)
structure Bsz(P:Ŏ)(K:O0)(base h:Heap)(H:Hp):Prop where
 le:base.objs.size<=h.objs.size
 tb: ∀b ps,tabAt P K b=some ps->H b=some (.tbl ps)
 cd: ∀e∈EN P, ∀c b,PySem.W.tabIn K e.1=some (c,b)->PySem.W.CodeHd base c b
structure Cx where
 prog:Ŏ
 w:World
 K:PySem.W.Frag
 mg:Str->Option ō
 base:Heap
 A:Around
 N:List Str
 s₀:Ō
 H₀:Hp
 env:Env
 outer:List Env
 stack:List Env
 ex:List Addr
 fn:Str->Bool
 calm:Bool
 pn:List (Addr×Obj)
 xe:VP
noncomputable def Lk(l:List Env):List Addr:=l.filterMap (·.frame)
abbrev Cx.fs(X:Cx):List Addr:=Lk X.outer
def zFQ(a:Scope)(x:Str):Prop:=a.names.lookup x=some .local\/a.names.lookup x=some .cell\/a.names.lookup x=some .free
def Loc(a:Scope)(x:Str):Prop:=a.names.lookup x=some .local\/a.names.lookup x=some .cell
def Look(a:Env)(h:Heap)(m:G0)(x:Str)(u:ō):Prop:=
 (a.kindOf x=some .local/\m x=some u)\/((a.kindOf x=some .cell\/a.kindOf x=some .free)/\ ∃c,a.cells.lookup x=some c/\h.IsCell c (some u))
structure Cx.Ok(X:Cx):Prop where
 mod:Mod X.K X.mg X.base
 kind:X.env.scope.kind=.function
 glob:X.env.globals=mainGlobals
 blt:X.env.builtins=builtinsNs
 above:X.s₀.heap.objs.size<=X.env.locals
 inj: ∀x y c,X.env.cells.lookup x=some c->X.env.cells.lookup y=some c->x=y
 has: ∀x,(X.env.kindOf x=some .cell\/X.env.kindOf x=some .free)-> ∃c,X.env.cells.lookup x=some c
 cab: ∀x c,X.fn x=true->X.env.cells.lookup x=some c->X.s₀.heap.objs.size<=c
 hd:X.calm=true->X.A.handled=none
 frames:X.A.frames=some X.stack
 stk:X.stack=X.outer\/(X.stack=X.env::X.outer/\X.env.frame=some X.env.locals)
 exf: ∀b∈X.ex,b≠X.env.locals/\ ∀x c,X.env.cells.lookup x=some c->c≠b
 bs: ∀b o,X.base.get? b=some o->X.s₀.heap.get? b=some o/\X.H₀ b=none
 bsz:Bsz X.prog X.K X.base X.s₀.heap X.H₀
 noex: ∀b o,X.base.get? b=some o->b∉X.ex
 exfs: ∀b∈X.ex,b∉X.fs
 funs:X.s₀.heap.FunFrames X.base X.outer
 frf: ∀b∈X.fs,X.H₀ b=none
def FzC(H:Hp)(c:Addr):Prop:= ∃o,H c=some (.frz o (.ext λh=>h.get? c=some o))
structure Inv(X:Cx)(pins:L0)(σ:List (Option V))(H:Hp)(s:Ō):Prop where
 ok:X.Ok
 os:s.os=X.s₀.os
 bare:AllBare s.gens
 base:Un X.fs X.ex X.H₀ H X.s₀.heap s.heap
 loc: ∃m,s.heap.Ns X.env.locals m/\ ∀(i:Nat)(x:Str)(v:V),X.N[i]? =some x->σ[i]? =some (some v)->zFQ X.env.scope x-> ∃u,RelV v u/\Look X.env s.heap m x u
 cell: ∀x c,X.env.cells.lookup x=some c-> ∃v,s.heap.IsCell c v
 free:H X.env.locals=none
 freeC: ∀x c,X.env.cells.lookup x=some c->H c=none\/(X.fn x=false/\FzC H c)
 pin: ∀p∈X.pn++pins,s.heap.get? p.1=some p.2/\H p.1=none/\p.1≠X.env.locals/\p.1∉X.fs/\ ∀v,p.2.data≠.cell v
 hok:HOk X.prog X.w H s.heap
 len:σ.length=X.N.length
section
variable{X:Cx}{h':Heap}
def Cx.Ok.nofr(ok:X.Ok)(e:X.base.get? b=some o):b∉X.fs:=λa=>by have:=(ok.funs.mem a).1;rw[e]at this;cases this
def Inv.bs(I:↑1): ∀b o,X.base.get? b=some o->s.heap.get? b=some o/\H b=none:=λb o e=>
 {I.base.keep b o (I.ok.bs b o e).1 (I.ok.bs b o e).2 (I.ok.nofr e) (I.ok.noex b o e),I.base.free b o (I.ok.bs b o e).1 (I.ok.bs b o e).2 (I.ok.noex b o e)}
def Inv.bk(I:↑1): ∀b o,X.base.get? b=some o->s.heap.get? b=some o:=λb o e=>(I.bs b o e).1
def Inv.mod(I:↑1):Mod X.K X.mg X.base:=I.ok.mod
def Inv.kIn(I:↑1):X.K.In s.heap:=I.ok.mod.kin.keeps I.bk
def Inv.lt(I:↑1):X.env.locals<s.heap.objs.size:=let ⟨_,a,_⟩:=I.loc;a.lt
def Inv.sz(I:↑1):X.s₀.heap.objs.size<=s.heap.objs.size:=ó I.ok.above (le_of_lt I.lt)
def Inv.bsz(I:↑1):Bsz X.prog X.K X.base s.heap H:={ó I.ok.bsz.1 I.sz,λb ps e=>I.base.tbls b ps (I.ok.bsz.2 b ps e),I.ok.bsz.3}
def Inv.nofs(I:↑1){a:Addr}(h:↑0<=a):a∉X.fs:=λb=>by obtain⟨_,o,c,_⟩:=I.ok.funs.mem b;exact absurd (ä (â c) (ó I.sz h)) (Į _)
def Inv.cne(I:↑1): ∀x c,X.env.cells.lookup x=some c->c≠X.env.locals:=λx c e z=>by refine(I.cell x c e).d λv o j hd=>?_;refine I.loc.a λm k _=>?_;obtain ⟨q,es,u,b,a,_⟩:=k;rw[z,b]at j;cases j;rw[a]at hd;cases hd
def Inv.funs(I:↑1):s.heap.FunFrames X.base X.outer:=by
 have all: ∀(l:List Env),(∀b∈Lk l,b∈X.fs)->X.s₀.heap.FunFrames X.base l->s.heap.FunFrames X.base l:=by
  intro l
  induction l with
  |nil=>intro _ _;trivial
  |cons env r ih=>
   intro hs w;refine w.f λu k v=>?_;obtain ⟨L,o,j,q,m,hd⟩:=k;have c:=hs L (by unfold Lk;rw[Ĳ,j];exact mF0);obtain⟨sl,e⟩:=I.base.slot L o m (I.ok.frf L c) c λz=>I.ok.exfs L z c;exact{u,(Zo L _ j q e hd),ih (λb a=>hs b (by unfold Lk;rw[Ĳ,j];exact mO _ a)) v}
 exact all X.outer (λ_ a=>a) I.ok.funs
def Inv.stack(I:↑1):s.heap.FunFrames X.base X.stack:=by
 rcases I.ok.stk with e|⟨e,hf⟩
 .rw[e];exact I.funs
 .rw[e];refine I.loc.a λm a _=>?_;refine .cons (by rw[I.ok.kind];decide) hf a ?_ I.funs;exact Heap.get?_none_of_le (ó I.ok.bsz.1 I.ok.above)
def Inv.stkSub(I:↑1): ∀b∈Lk X.stack,b∈X.env.locals::X.fs:=λb a=>by
 rcases I.ok.stk with e|⟨e,hf⟩
 .rw[e]at a;exact mO _ a
 .rw[e]at a;unfold Lk at a;rw[Ĳ,hf]at a;exact a
def Inv.stkFree(I:↑1): ∀b∈Lk X.stack,H b=none:=λb a=>by
 rcases mC.mp (I.stkSub b a)with e|a
 .rw[e];exact I.free
 .obtain⟨_,o,c,_⟩:=I.ok.funs.mem a;exact I.base.free b o c (I.ok.frf b a) λz=>I.ok.exfs b z a
def Inv.step{ch:B9}(I:↑1)
  (hch:↑12)
  (keep: ∀b o,b≠X.env.locals->b∉X.fs->b∉ch->s.heap.get? b=some o->H b=none->h'.get? b=some o)
  (slot: ∀b o,b≠X.env.locals->b∈X.fs->b∉ch->s.heap.get? b=some o->H b=none-> ∃sl,h'.get? b=some {o with slots:=sl}) (free: ∀b o,b∉ch->s.heap.get? b=some o->H b=none->H' b=none)
  (there: ∀b o,b∉ch->s.heap.get? b=some o-> ∃G,h'.get? b=some G)
  (tups: ∀b xs,H b=some (.tup xs)->H' b=some (.tup xs)) (frzs: ∀b o u,H b=some (.frz o u)->H' b=some (.frz o u)) (tbls: ∀b ps,H b=some (.tbl ps)->H' b=some (.tbl ps))
  (ns: ∀m,s.heap.Ns X.env.locals m->h'.Ns X.env.locals m) (hok:HOk X.prog X.w H' h') (hg:AllBare g'):
  Inv X pins σ H' {s with heap:=h',gens:=g',drawn:=d',toks:=t'}:=by
 have F: ∀b o,X.s₀.heap.get? b=some o->b≠X.env.locals:=λb o e=>å (ä (â e) I.ok.above)
 have B: ∀b o,X.s₀.heap.get? b=some o->b∉X.ex->b∉ch:=λb o e a D=>by
  rcases (hch b D).1 with z|z
  .exact a z
  .exact absurd (ä (â e) z) (Į _)
 have y: ∀x c,X.env.cells.lookup x=some c-> ∀v,s.heap.IsCell c v->h'.IsCell c v:=λx c e v ⟨o,E,hd⟩=>by
  have j:=λz=>(hch c z).2.2.1 x c e rfl;rcases I.freeC x c e with C|⟨_,N,C⟩
  .by_cases L:c∈X.fs
   .obtain⟨sl,q⟩:=slot c o (I.cne x c e) L j E C;exact Z3 _ q hd
   .exact{o,keep c o (I.cne x c e) L j E C,hd}
  .obtain⟨A,_⟩:=I.hok c _ C;obtain⟨J,_⟩:=hok c _ (frzs c _ _ C);rw[E]at A;cases A;exact Z3 _ J hd
 refine{I.ok,I.os,hg,{λb o e n D a=>?_,λb o e n D a=>?_,λb o e n a=>?_,λb o e a=>?_,λb xs e=>tups b xs (I.base.tups b xs e),λb o xs e=>frzs b o xs (I.base.frzs b o xs e),λb ps e=>tbls b ps (I.base.tbls b ps e)},?_,λx c e=>?_,?_,λx c e=>?_,λp M=>?_,hok,I.len}
 .exact keep b o (F b o e) D (B b o e a) (I.base.keep b o e n D a) (I.base.free b o e n a)
 .obtain⟨sl,A⟩:=I.base.slot b o e n D a;obtain⟨K,J⟩:=slot b _ (F b o e) D (B b o e a) A (I.base.free b o e n a);exact⟨K,J⟩
 .obtain⟨G,A⟩:=I.base.there b o e a;exact free b G (B b o e a) A (I.base.free b o e n a)
 .obtain⟨G,A⟩:=I.base.there b o e a;exact there b G (B b o e a) A
 .refine I.loc.a λm O Q=>?_;refine Z3 m (ns m O) (λi x v A J P=>?_);refine(Q i x v A J P).a λu r l=>?_;refine Z3 u r ?_;rcases l with l|⟨k,c,e,z⟩
  .exact .inl l
  .exact .inr {k,c,e,y x c e _ z}
 .obtain⟨v,z⟩:=I.cell x c e;exact{v,y x c e v z}
 .refine I.loc.a λm T _=>?_;obtain ⟨o,_,_,E,_⟩:=T;exact free _ o (λz=>(hch _ z).2.1 rfl) E I.free
 .refine(I.cell x c e).d λv o E hd=>?_;exact(I.freeC x c e).imp (free c o (λz=>(hch c z).2.2.1 x c e rfl) E) λ⟨nf,N,C⟩=>{nf,N,frzs c _ _ C}
 .refine(I.pin p M).p λe n ne nf d=>?_;have j:=λz=>(hch p.1 z).2.2.2 p M rfl;exact{keep p.1 p.2 ne nf j e n,free p.1 p.2 j e n,ne,nf,d}
def Inv.un(I:Inv X pins σ H s)(u:Un X.fs [] H H' s.heap h')(j:HOk X.prog X.w H' h'):Inv X pins σ H' {s with heap:=h',toks:=t'}:=by refine(id I.loc).a λm k _=>?_;obtain ⟨o,es,D,y,r⟩:=k;obtain⟨sl,C⟩:=u.any y I.free (by simp);exact I.step (ch:=[]) (λ_ z=>nomatch z) (λb o _ q _ e n=>u.keep b o e n q (by simp)) (λb o _ q _ e n=>u.slot b o e n q (by simp)) (λb o _ e n=>u.free b o e n (by simp)) (λb o _ e=>u.there b o e (by simp)) u.tups u.frzs u.tbls (λE B=>by refine B.m λF v c a A=>?_;rw[y]at a;cases a;exact YX _ v c C A) j I.bare
def Inv.call(I:↑1)(u:Un (Lk X.stack) ch H H' s.heap h')(v:HOk X.prog X.w H' h')(F:AllBare g')
  (hch:↑12):
  Inv X pins σ H' {s with heap:=h',gens:=g',drawn:=d',toks:=t'}:=by
 refine(id I.loc).a λm k _=>?_;obtain ⟨o,es,G,B,r⟩:=k;obtain⟨sl,y⟩:=u.any B I.free λz=>(hch _ z).2.1 rfl;exact I.step hch (λb o y D a e n=>u.keep b o e n (λz=>(mC.mp (I.stkSub b z)).elim y D) a) (λb o _ _ a e n=>u.any e n a) (λb o a e n=>u.free b o e n a) (λb o a e=>u.there b o e a) u.tups u.frzs u.tbls (λJ E=>by refine E.m λK A q j C=>?_;rw[B]at j;cases j;exact YX _ A q y C) v F
def Inv.turned(I:↑1)(k: ∀b o,b≠it->s.heap.get? b=some o->h'.get? b=some o)(D:H it=none)(w:it≠X.env.locals)
  (h1:it∈X.ex\/X.s₀.heap.objs.size<=it) (h2: ∀x c,X.env.cells.lookup x=some c->c≠it) (h3: ∀p∈X.pn++pins,p.1≠it):Inv X pins σ H {s with heap:=h',toks:=t'}:=by
 have j: ∀b u,H b=some u->b≠it:=λb u e z=>by rw[z,D]at e;cases e
 refine I.step (ch:=[it]) (λb y=>?_) (λb o _ _ a e _=>k b o (λz=>a (by simp[z])) e) (λb o _ _ a e _=>{_,k b o (λz=>a (by simp[z])) e}) (λ_ _ _ _ n=>n)
  (λb o a e=>{o,k b o (λz=>a (by simp[z])) e}) (λ_ _ e=>e) (λ_ _ _ e=>e) (λ_ _ e=>e) (λm C=>?_) (λb u e=>?_) I.bare
 .have e:=by simpa using y
  cases e;exact⟨h1,w,h2,h3⟩
 .refine C.m λo es B A r=>?_;exact YX o es B (k _ o (Ne.symm w) A) r
 .refine(I.hok b u e).stay (λc v a q=>k c v ?_ q) (λ_ q=>q) (λ_ _ q=>q) λ_ _ _ q=>q;rcases a with z|z
  .rw[z];exact j b u e
  .exact j c _ z
def Inv.tok(I:↑1)(t):Inv X pins σ H {s with toks:=t}:=I.un Un.refl I.hok
def Inv.kept(I:↑1)(k: ∀b u,s.heap.get? b=some u->h'.get? b=some u):Inv X pins σ H {s with heap:=h',toks:=t'}:=I.un (Un.kept k) (I.hok.kept k)
def Inv.laid{a:Addr}(I:↑1)(k: ∀b u,s.heap.get? b=some u->h'.get? b=some u)(c:↑0<=a)(new:ObjOk X.prog X.w (yP H a o) h' a o):
  Inv X pins σ (yP H a o) {s with heap:=h',toks:=t'}:=I.un (Un.laid k c (I.hok.fresh c)) (I.hok.laid k c new)
def Inv.write(I:↑1)(c:D8 (H x))(j:e=x\/H e=some (.own x))(k: ∀b u,b≠e->s.heap.get? b=some u->h'.get? b=some u)(a: ∃u,h'.get? e=some u)
  (new:ObjOk X.prog X.w (yP H x o) h' x o):Inv X pins σ (yP H x o) {s with heap:=h',toks:=t'}:=I.un (Un.write c j k a) (I.hok.write c j k a new)
def Inv.pins_of(I:↑1)(h: ∀p∈pins',s.heap.get? p.1=some p.2/\H p.1=none/\p.1≠X.env.locals/\p.1∉X.fs/\ ∀v,p.2.data≠.cell v):Inv X pins' σ H s:=
 {I.ok,I.os,I.bare,I.base,I.loc,I.cell,I.free,I.freeC,λp a=>(ì.mp a).elim (λz=>I.pin p (ę _ z)) (h p),I.hok,I.len}
def YJ{N:D0}(o:N.Nodup){i:Nat}(a:N[i]? =some x)(b:N[j]? =some x):i=j:=by obtain⟨q,c⟩:=gS.mp a;obtain⟨s,m⟩:=gS.mp b;exact(getElem_inj o).mp (c.trans m.symm)
abbrev Q6(X:Cx)(x:Str):Prop:=X.fn x=true\/X.env.scope.names.lookup x=some .local
def RX(I:↑1)(hN:X.N.Nodup)(hi:X.N[i]? =some x)(F:Loc X.env.scope x)(r:RelV v u)
  (h: ∀s',Inv X pins (σ.set i (some v)) H s'->(∃a,Heap.SameBut a s.heap s'.heap/\(a=X.env.locals\/X.env.cells.lookup x=some a))->Q () s') (hf:Q6 X x:=by first |exact .inl rfl|exact .inr rfl|assumption):wpAny M A (storeName X.env x u) Q E s:=by
 refine(id I.loc).a λm hn hl=>?_;have L:i<σ.length:=by rw[I.len];exact(gS.mp hi).1
 have cne:=I.cne
 have B: ∀{a:Addr}{h':Heap},(∃o,s.heap.get? a=some o/\H a=none)->Heap.SameBut a s.heap h'->HOk X.prog X.w H h':=λ{a h'} ha hs b ob e=>by
  obtain⟨_,_,G⟩:=ha;refine(I.hok b ob e).stay (λc Z D q=>(hs.2 c ?_).trans q) (λ_ q=>q) (λ_ _ q=>q) λ_ _ _ q=>q;rintro rfl;rcases D with rfl|D
  .rw[G]at e;cases e
  .rw[G]at D;cases D
 rcases F with hk|hk
 .refine wpAny_storeName_local hk hn (λh' ab hs=>?_) (by rw[I.ok.kind];rfl);refine(id hn).m λoL _ _ aa _=>?_;refine h _ {I.ok,I.os,I.bare,{λb o e n O F=>?_,λb o e n O F=>?_,I.base.free,λb o e F=>?_,I.base.tups,I.base.frzs,I.base.tbls},(Z3 _ ab (λj y v' C K e3=>?_)),λy c e=>?_,I.free,I.freeC,λp hp=>?_,B (Z3 oL aa I.free) hs,by simpa using I.len} {_,hs,.inl rfl}
  .exact(hs.2 b (å (ä (â e) I.ok.above))).trans (I.base.keep b o e n O F)
  .obtain⟨sl,C⟩:=I.base.slot b o e n O F;exact{sl,(hs.2 b (å (ä (â e) I.ok.above))).trans C}
  .obtain⟨o',C⟩:=I.base.there b o e F;exact{o',(hs.2 b (å (ä (â e) I.ok.above))).trans C}
  .by_cases P:j=i
   .subst P;rw[hi]at C;cases C;rw[Ĥ L]at K;cases K;exact Z3 u r (.inl {hk,by simp})
   .rw[ħ (Ne.symm P)]at K;refine(hl j y v' C K e3).a λu' r' q=>?_;refine{u',r',?_};rcases q with⟨k,e⟩|⟨k,c,e,z⟩
    .refine .inl {k,?_};have:y≠x:=λe=>P (YJ hN C (e▸hi));simp[this,e]
    .exact .inr {k,c,e,z.sameBut hs (cne y c e)}
  .obtain⟨Z,z⟩:=I.cell y c e;exact{Z,z.sameBut hs (cne y c e)}
  .refine(I.pin p hp).p λe n ne nf d=>?_;exact{(hs.2 p.1 ne).trans e,n,ne,nf,d}
 .have J:X.fn x=true:=by
   rcases hf with z|z
   .exact z
   .rw[z]at hk;cases hk
  obtain⟨c,D⟩:=I.ok.has x (.inl hk);obtain⟨Z,z⟩:=I.cell x c D;refine wpAny_storeName_cell I.ok.kind hk D z (λh' S hs=>?_);refine(id z).a λoc W T=>?_;refine h {s with heap:=h'} {I.ok,I.os,I.bare,{λb o e n O F=>?_,λb o e n O F=>?_,I.base.free,λb o e F=>?_,I.base.tups,I.base.frzs,I.base.tbls},(Z3 m (hn.sameBut hs (Ne.symm (cne x c D))) (λj y v' C K e3=>?_)),λy Y e=>?_,I.free,I.freeC,λp hp=>?_,B {oc,W,(I.freeC x c D).resolve_right λz=>by rw[J]at z;cases z.1} hs,by simpa using I.len} {c,hs,.inr D}
  .exact(hs.2 b (å (ä (â e) (I.ok.cab x c J D)))).trans (I.base.keep b o e n O F)
  .obtain⟨sl,C⟩:=I.base.slot b o e n O F;exact{sl,(hs.2 b (å (ä (â e) (I.ok.cab x c J D)))).trans C}
  .obtain⟨o',C⟩:=I.base.there b o e F;exact{o',(hs.2 b (å (ä (â e) (I.ok.cab x c J D)))).trans C}
  .by_cases P:j=i
   .subst P;rw[hi]at C;cases C;rw[Ĥ L]at K;cases K;exact Z3 u r (.inr {.inl hk,c,D,S})
   .rw[ħ (Ne.symm P)]at K;refine(hl j y v' C K e3).a λu' r' q=>?_;refine{u',r',?_};rcases q with q|⟨k,Y,e,z'⟩
    .exact .inl q
    .refine .inr {k,Y,e,z'.sameBut hs ?_};rintro rfl;exact P (YJ hN C (I.ok.inj _ _ _ e D▸hi))
  .by_cases U:Y=c
   .subst U;exact{_,S}
   .obtain⟨w2,z2⟩:=I.cell y Y e;exact{w2,z2.sameBut hs U}
  .refine(I.pin p hp).p λe n ne nf d=>?_;refine{(hs.2 p.1 ?_).trans e,n,ne,nf,d};intro q;rw[q,W]at e;exact d Z (by rw[<-(è e)];exact T)
def YK(I:↑1)(b:X.N.Nodup)(hi:X.N[i]? =some x)(c:Loc X.env.scope x)(r:RelV v u)
  (h: ∀j,Inv X pins (σ.set i (some v)) H j->Q () j) (hf:Q6 X x:=by first |exact .inl rfl|exact .inr rfl|assumption):wpAny M A (storeName X.env x u) Q E s:=
 RX I b hi c r (λj a _=>h j a) hf
def Inv.call'(I:↑1)(m:s'.os=s.os)(u:Un (Lk X.stack) ch H H' s.heap s'.heap)(a:HOk X.prog X.w H' s'.heap)(j:AllBare s'.gens)
  (hch:↑12):Inv X pins σ H' s':=by
 obtain⟨h',v,o,q,y⟩:=s';subst m;exact I.call u a j hch
end
abbrev XK:=Value->Option Addr->Hp->Prop
abbrev St:=List (Option V)
abbrev VK:=V->Hp->Prop
abbrev TE:=St->Hp->VK->Prop
abbrev TT:=St->Hp->(Bool->Hp->Prop)->Prop
abbrev TA:=St->Hp->(List V->Hp->Prop)->Prop
structure Ends where
 nx:St->Hp->Prop
 rt:VK
 bk:St->Hp->Prop:=λ_ _=>False
 ct:St->Hp->Prop:=λ_ _=>False
abbrev TS:=Ends->St->Hp->Prop
def EP(X:Cx)(pins:L0)(σ:St)(Q:VK)(u:ō)(a:Ō):Prop:= ∃v H',Inv X pins σ H' a/\RelV v u/\Q v H'
def TP(X:Cx)(pins:L0)(σ:St)(Q:Bool->Hp->Prop)(b:Bool)(a:Ō):Prop:= ∃H',Inv X pins σ H' a/\Q b H'
def AP(X:Cx)(pins:L0)(σ:St)(Q:List V->Hp->Prop)(us:A0)(a:Ō):Prop:= ∃vs H',Inv X pins σ H' a/\Vals vs us/\Q vs H'
def SP(X:Cx)(pins:L0)(D:Ends)(f:Flow)(b:Ō):Prop:=
 match f with
 |.next=> ∃a H',Inv X pins a H' b/\D.nx a H'
 |.brk=> ∃a H',Inv X pins a H' b/\D.bk a H'
 |.cont=> ∃a H',Inv X pins a H' b/\D.ct a H'
 |.ret u=> ∃v a H',Inv X pins a H' b/\RelV v u/\D.rt v H'
def PE(X:Cx)(e:Expr)(t:TE):Prop:=
 ∀(pins:L0)(s:Ō)(σ:St)(H:Hp)(Q:VK),Inv X pins σ H s->t σ H Q->wpAny ↑5 X.A (eval e X.env) (EP X pins σ Q) X.xe s
def PT(X:Cx)(e:Expr)(t:TT):Prop:=
 ∀(pins:L0)(s:Ō)(σ:St)(H:Hp)(Q:Bool->Hp->Prop),Inv X pins σ H s->t σ H Q->wpAny ↑5 X.A (isTrue e X.env (eval e X.env)) (TP X pins σ Q) X.xe s
def PW(X:Cx)(e:Expr)(t:TT):Prop:=
 ∀(a:Sem ō)(pins:L0)(s:Ō)(σ:St)(H:Hp)(Q:Bool->Hp->Prop),Inv X pins σ H s->t σ H Q->wpAny ↑5 X.A (isTrue e X.env a) (TP X pins σ Q) X.xe s
def PW.pt(h:PW X e t):PT X e t:=h _
def PA(X:Cx)(es:N0)(t:TA):Prop:=
 ∀(pos:Pos)(pins:L0)(s:Ō)(σ:St)(H:Hp)(Q:List V->Hp->Prop),Inv X pins σ H s->t σ H Q->wpAny ↑5 X.A (spliced (backTo pos (starEach es X.env))) (AP X pins σ Q) X.xe s
def PS(X:Cx)(st:Stmt)(t:TS):Prop:=
 ∀(pins:L0)(s:Ō)(σ:St)(H:Hp)(D:Ends),Inv X pins σ H s->t D σ H->wpAny ↑5 X.A (exec st X.env) (SP X pins D) X.xe s
def PSs(X:Cx)(st:List Stmt)(t:TS):Prop:=
 ∀(pins:L0)(s:Ō)(σ:St)(H:Hp)(D:Ends),Inv X pins σ H s->t D σ H->wpAny ↑5 X.A (execs st X.env) (SP X pins D) X.xe s
def xV(h:wpAny M A t Q E s)(b: ∀a s,Q a s->Q' a s):wpAny M A t Q' E s:=þ h b λ_ _ x=>x
section
variable{X:Cx}
def zBN(i:Nat):TE:=λσ H Q=> ∃v,σ[i]? =some (some v)/\Q v H
def tC(v:V):TE:=λ_ H Q=>Q v H
def Lp:PE X (.Constant (.int i) j pos) (tC (.int i)):=λ_ _ _ H _ I h=>wpAny_Constant_int (Z2 (.int i) H (I.tok _) {_,rfl} h)
def zBO:PE X (.Constant (.bool b) j pos) (tC (.bl b)):=λ_ _ _ H _ I h=>Constant_bool (Z2 (.bl b) H I rfl h)
def Gl(X:Cx)(x:Str):Prop:=X.env.kindOf x=some .globalImplicit
def MA(I:↑1)(b:Gl X x)(a:X.mg x=some u)(h:Q u s)
  (hd:(x==("__debug__"))=false:=by decide):wpAny ↑5 X.A (eval (.Name x pos) X.env) Q E s:=
 Calls.Name_function_global I.ok.kind b (Calls.loadGlobal_global (by rw[I.ok.glob];exact I.mod.glob.keeps I.bk) a h) hd
def pT{E:VP}{pos:Pos}(I:↑1)(a:Gl X x)(c:X.mg x=none)(b:bootBuiltins x=some u)(h:Q u s)
  (hn:x≠"__name__":=by decide) (hd:(x==("__debug__"))=false:=by decide):wpAny ↑5 X.A (eval (.Name x pos) X.env) Q E s:=by
 refine I.mod.blt.a λo j m=>?_;exact Calls.Name_function_global I.ok.kind a (Calls.loadGlobal_builtin (by rw[I.ok.glob];exact I.mod.glob.keeps I.bk) c (by rw[I.ok.blt];exact j.keeps I.bk) ((m x hn).trans b) h) hd
def tB(t:TE):TT:=λσ H Q=>t σ H λx a=> ∃c,x=.bl c/\Q c a
variable{rest:N0}
def tAnd(t u:TT):TT:=λσ H Q=>t σ H λc a=>if c=true then u σ a Q else Q false a
def tOr(t u:TT):TT:=λσ H Q=>t σ H λc a=>if c=true then Q true a else u σ a Q
def tNot(t:TT):TT:=λσ H Q=>t σ H λc a=>Q (!c) a
def Sk(b:PT X a tA):PW X (.BoolOp .And [a] pos) tA:=by
 intro j pins s σ H Q I h;refine isTrue_and (xV (b pins s σ H Q I h) λc m e=>?_)
 cases c with
 |true=>exact isTrue_and_nil e
 |false=>exact e
def E3(b:PT X a tA):PW X (.BoolOp .Or [a] pos) tA:=by
 intro j pins s σ H Q I h;refine isTrue_or (xV (b pins s σ H Q I h) λc m e=>?_)
 cases c with
 |false=>exact isTrue_or_nil e
 |true=>exact e
def E4(v:PT X a tA)(u:PW X (.BoolOp .And (b::rest) pos) tB'):PW X (.BoolOp .And (a::b::rest) pos) (tAnd tA tB'):=by
 intro o pins s σ H Q I h;refine isTrue_and (xV (v pins s σ H _ I h) λc q ⟨m,I1,j⟩=>?_)
 cases c with
 |true=>exact u o pins q σ m Q I1 j
 |false=>exact⟨m,I1,j⟩
def zBP(v:PT X a tA)(u:PW X (.BoolOp .Or (b::rest) pos) tB'):PW X (.BoolOp .Or (a::b::rest) pos) (tOr tA tB'):=by
 intro o pins s σ H Q I h;refine isTrue_or (xV (v pins s σ H _ I h) λc q ⟨m,I1,j⟩=>?_)
 cases c with
 |true=>exact⟨m,I1,j⟩
 |false=>exact u o pins q σ m Q I1 j
def zBQ(j b:TE):TE:=λσ H Q=>j σ H λx a=> ∃c,x=.bl c/\if c=true then b σ a Q else Q (.bl false) a
def E7(w:PE X a ta)(u:PE X (.BoolOp .And (b::rest) pos) tb):PE X (.BoolOp .And (a::b::rest) pos) (zBQ ta tb):=by
 rw[22];refine BoolOp_and (xV (w pins s σ H _ I h) λv q ⟨x,m,I1,o,j⟩=>?_);obtain⟨c,rfl,j⟩:=j;subst o;refine Ċ ?_
 cases c with
 |true=>exact u pins q σ m Q I1 j
 |false=>exact Z2 (.bl false) m I1 rfl j
def tIf(t:TT)(j b:TE):TE:=λσ H Q=>t σ H λc a=>if c=true then j σ a Q else b σ a Q
def Lq(q:PT X c tA)(v:PE X a ta)(u:PE X b tb):PE X (.IfExp c a b pos) (tIf tA ta tb):=by
 rw[22];refine wpAny_IfExp (xV (q pins s σ H _ I h) λd m ⟨o,I1,j⟩=>?_)
 cases d with
 |true=>exact v pins m σ o Q I1 j
 |false=>exact u pins m σ o Q I1 j
end
def SqL(K:O0)(H:Hp)(a:Addr)(xs:List V):Prop:=
 Rd H a (.lst xs)\/
  ∃(o:Obj)(b:B0)(n:Nat),K.lookup a=some o/\o.cls=.type "list"/\o.dict=none/\o.data=.seq b n/\b.size<=sizeLine/\Vals xs b.toList
def SqT(K:O0)(H:Hp)(a:Addr)(xs:List V):Prop:=
 Rd H a (.tup xs)\/
  ∃(o:Obj)(b:B0)(n:Nat),K.lookup a=some o/\o.cls=.type "tuple"/\o.data=.seq b n/\b.size<=sizeLine/\Vals xs b.toList
noncomputable def absV:ō->Option V
 |.none=>some .non
 |.bool b=>some (.bl b)
 |.int i _=>some (.int i)
 |.str x _=>some (.str x)
 |.bytes b _=>some (.byt b)
 |.float b _=>some (.flt b)
 |.ref a=>some (.ref a)
 |.type n=>some (.ty n)
 |_=>none
theorem RelV.abs(r:RelV x u):absV u=some x:=by
 cases x with
 |non=>subst r;rfl
 |bl _=>subst r;rfl
 |int _=>obtain⟨t,rfl⟩:=r;rfl
 |str _=>obtain⟨t,rfl⟩:=r;rfl
 |byt _=>obtain⟨t,rfl⟩:=r;rfl
 |flt _=>obtain⟨t,rfl⟩:=r;rfl
 |ref _=>subst r;rfl
 |ty _=>subst r;rfl
def RelV.inj(r:RelV x u)(q:RelV y u):x=y:=è (r.abs.symm.trans q.abs)
def Vals.inj(h:Vals xs us): ∀{ys},Vals ys us->xs=ys:=by
 induction h with
 |nil=>intro k h;cases h;rfl
 |cons r t ih=>
  intro k h
  cases h with
  |cons a b=>rw[r.inj a,ih b]
section
def SqL.of{K:O0}(h:H a=some (.lst xs)):SqL K H a xs:=.inl (.inl h)
def SqT.of{K:O0}(h:H a=some (.tup xs)):SqT K H a xs:=.inl (.inl h)
theorem Inv.list(I:↑1)(h:SqL X.K H a xs): ∃j:List ō,Vals xs j/\PlainL s.heap a j.toArray/\↑7<=sizeLine:=by
 rcases h with h|⟨o,j,n,hk,hc,hd,hs,hz,r⟩
 .obtain⟨z,j,n,r,e⟩:=h.ok I.hok;exact Z0 j r (Zo _ n e rfl rfl rfl) z
 .refine(Z0 _ r (Zo o n (I.kIn a o hk) hc hd (by simpa using hs)) ?_);have e:=r.length;simp only[î]at e
  lia
theorem Inv.tuple(I:↑1)(h:SqT X.K H a xs): ∃j:List ō,Vals xs j/\IsTup s.heap a j.toArray/\↑7<=sizeLine:=by
 rcases h with h|⟨o,j,n,hk,hc,hs,hz,r⟩
 .obtain⟨z,j,r,p⟩:=h.ok I.hok;exact Z0 j r p z
 .refine(Z0 _ r {o,I.kIn a o hk,hc,n,by simpa using hs} ?_);have e:=r.length;simp only[î]at e
  lia
def Inv.list_inj(I:↑1)(h:SqL X.K H a xs)(h':SqL X.K H a ys):xs=ys:=by
 refine(I.list h).c λm r k _=>?_;obtain ⟨o,n,e,_,_,d⟩:=k;refine(I.list h').c λc q y _=>?_;obtain ⟨v,u,j,_,_,b⟩:=y;rw[e]at j;cases j;rw[d]at b;injection b with d1 _
 have:=by simpa using congrArg Array.toList d1
 subst this;exact r.inj q
def Inv.tuple_inj(I:↑1)(h:SqT X.K H a xs)(h':SqT X.K H a ys):xs=ys:=by
 refine(I.tuple h).c λm r k _=>?_;obtain ⟨o,e,_,n,d⟩:=k;refine(I.tuple h').c λc q y _=>?_;obtain ⟨v,j,_,u,b⟩:=y;rw[e]at j;cases j;rw[d]at b;injection b with d1 _
 have:=by simpa using congrArg Array.toList d1
 subst this;exact r.inj q
end
abbrev Cx.wish(X:Cx)(E:VP):Cx:={X with xe:=E}
abbrev Cx.nox(X:Cx):Cx:=X.wish λ_ _=>False
def Cx.Ok.wish{X:Cx}(ok:X.Ok)(E):(X.wish E).Ok:=
 ⟨ok.mod,ok.kind,ok.glob,ok.blt,ok.above,ok.inj,ok.has,ok.cab,ok.hd,ok.frames,ok.stk,ok.exf,ok.bs,ok.bsz,ok.noex,ok.exfs,ok.funs,ok.frf⟩
def Cx.Ok.unwish{X:Cx}(ok:(X.wish E).Ok):X.Ok:=
 ⟨ok.mod,ok.kind,ok.glob,ok.blt,ok.above,ok.inj,ok.has,ok.cab,ok.hd,ok.frames,ok.stk,ok.exf,ok.bs,ok.bsz,ok.noex,ok.exfs,ok.funs,ok.frf⟩
section
variable{pins:L0}{σ:St}{H:Hp}{s:Ō}
def Inv.wish(I:↑1)(E):Inv (X.wish E) pins σ H s:={I.ok.wish E,I.os,I.bare,I.base,I.loc,I.cell,I.free,I.freeC,I.pin,I.hok,I.len}
def Inv.unwish(I:Inv (X.wish E) pins σ H s):Inv X pins σ H s:=⟨I.ok.unwish,I.os,I.bare,I.base,I.loc,I.cell,I.free,I.freeC,I.pin,I.hok,I.len⟩
def SP.unwish(h:SP (X.wish E) pins D f s'):SP X pins D f s':=by
 cases f with
 |next=>obtain⟨a,H',I,q⟩:=h;exact ZX a H' I.unwish q
 |brk=>obtain⟨a,H',I,q⟩:=h;exact ZX a H' I.unwish q
 |cont=>refine h.d λa H' I q=>?_;exact ZX a H' I.unwish q
 |ret u=>refine h.h λv a H' b=>b.f λI r q=>?_;exact Zj v a H' ⟨I.unwish,r,q⟩
def PSs.nox{st:List Stmt}(h:PSs X.nox st t):PSs X st t:=λpins s σ H D I hw=>
 þ (h pins s σ H D (I.wish _) hw) (λ_ _ q=>q.unwish) λ_ _ z=>False.elim z
end
section
variable{st:Stmt}{rest:List Stmt}
def zBR:TS:=λD σ H=>D.nx σ H
def tSeq(t u:TS):TS:=λD σ H=>t {D with nx:=u D} σ H
def Em(a:PS X st t):PSs X [st] t:=by
 intro pins s σ H D I h;refine wpAny_execs_cons (xV (a pins s σ H D I h) λf b q=>?_)
 cases f with
 |next=>exact wpAny_execs_nil q
 |ret v=>exact q
 |brk=>exact q
 |cont=>exact q
def Inv.quiet(I:↑1):interactive X.env=false:=by simp[interactive,I.ok.kind]
def zBS(b:TE):TS:=λD σ H=>b σ H λ_ a=>D.nx σ a
def tRet(a:TE):TS:=λD σ H=>a σ H D.rt
def tIfS(c:TT)(t u:TS):TS:=λD σ H=>c σ H λb a=>if b=true then t D σ a else u D σ a
def zBT(q:PT X c tc)(w:PSs X a t)(v:PSs X b u):PS X (.If c a b pos) (tIfS tc t u):=by
 intro pins s σ H D I h;refine wpAny_If (xV (q pins s σ H _ I h) λd m ⟨o,I1,j⟩=>?_)
 cases d with
 |true=>exact w pins m σ o D I1 j
 |false=>exact v pins m σ o D I1 j
def E9:TS:=λ_ _ _=>False
def Lu:PS X st E9:=λ_ _ _ _ _ _ h=>h.elim
end
abbrev TG:=V->St->Hp->(St->Hp->Prop)->Prop
abbrev F1:=List V->St->Hp->(St->Hp->Prop)->Prop
def PG(X:Cx)(a:Expr)(t:TG):Prop:=
 ∀(pins:L0)(s:Ō)(σ:St)(H:Hp)(v:V)(u:ō)(Q:St->Hp->Prop),Inv X pins σ H s->RelV v u->t v σ H Q->
  wpAny ↑5 X.A (assign a X.env u) (λ_ c=> ∃b H',Inv X pins b H' c/\Q b H') X.xe s
def zBF(X:Cx)(ts:N0)(t:F1):Prop:=
 ∀(pins:L0)(s:Ō)(σ:St)(H:Hp)(vs:List V)(us:A0)(Q:St->Hp->Prop),Inv X pins σ H s->Vals vs us->t vs σ H Q->
  wpAny ↑5 X.A (assignInOrder ((assignEach ts X.env).map (·.2)) us) (λ_ b=> ∃a H',Inv X pins a H' b/\Q a H') X.xe s
abbrev TSet:=V->V->V->Hp->(Hp->Prop)->Prop
def Lv(X:Cx)(t:TSet):Prop:=
 ∀(pins:L0)(s:Ō)(σ:St)(H:Hp)(o i v:V)(b a u:ō)(Q:Hp->Prop),Inv X pins σ H s->RelV o b->RelV i a->RelV v u->t o i v H Q->
  wpAny ↑5 X.A (setItem b a u) (λ_ c=> ∃H',Inv X pins σ H' c/\Q H') X.xe s
abbrev TIp:=V->V->Hp->VK->Prop
def PIp(X:Cx)(a:Operator)(t:TIp):Prop:=
 ∀(pins:L0)(s:Ō)(σ:St)(H:Hp)(x y:V)(v u:ō)(Q:VK),Inv X pins σ H s->RelV x v->RelV y u->t x y H Q->
  wpAny ↑5 X.A (inplaceOp a v u) (EP X pins σ Q) X.xe s
section
variable{pos:Pos}
def Lw(i:Nat):TG:=λv σ H Q=>Q (σ.set i (some v)) H
def Eo(b:X.N.Nodup)(hi:X.N[i]? =some x)(c:Loc X.env.scope x)(j:Q6 X x:=by first |exact .inl rfl|exact .inr rfl|assumption):PG X (.Name x pos) (Lw i):=by intro pins s σ H v u Q I r h;exact wpAny_assign_Name (YK I b hi c r (λm a=>(ZX _ H a h)) j)
def gNil:F1:=λvs σ H Q=>vs=[]/\Q σ H
def zBU(t:TG)(u:F1):F1:=λvs σ H Q=> ∃v r,vs=v::r/\t v σ H λa H'=>u r a H' Q
def Ep:zBF X [] gNil:=by intro pins s σ H vs a Q I r h;obtain⟨e,h⟩:=h;subst e;exact assignInOrder_nil (ZX (σ) H I h)
def YL(q:PG X e t)(m:zBF X es u)
  (hs:(assignEach (e::es) X.env).map (·.2)=assign e X.env::(assignEach es X.env).map (·.2):=by rfl):zBF X (e::es) (zBU t u):=by
 intro pins s σ H vs w Q I r h;obtain⟨v,y,o,h⟩:=h;subst o
 cases r with
 |cons r rr=>
  rw[hs];refine assignInOrder_cons (xV (q pins s σ H _ _ _ I r h) λ_ c ⟨a,j,I1,b⟩=>?_);exact m pins c a j _ _ Q I1 rr b
def gTup(K:O0)(n:Nat)(t:F1):TG:=λv σ H Q=> ∃a xs,v=.ref a/\SqT K H a xs/\↑7=n/\t xs σ H Q
def Lx{k:Nat}(m:X.calm=true)(h:zBF X es t)
  (hn:(assignEach es X.env).length=n:=by rfl) (hst:(assignEach es X.env).findIdx? (·.1)=none:=by rfl):PG X (.Tuple es k pos) (gTup X.K n t):=by
 intro pins s σ H v u Q I r hw;obtain⟨a,xs,w,j,A,hw⟩:=hw;subst w;subst r;refine(I.tuple j).c λy c B C=>?_;refine assign_Tuple_tuple (I.ok.hd m) B (by simp[hn, <-A,c.length]) hst λh' q=>?_;exact h pins _ σ H xs _ Q (I.kept λb o e=>q b o (å (â e)) e) (by simpa using c) hw
def gSub(b a:TE)(t:TSet):TG:=λv σ H Q=>b σ H λo j=>a σ j λi m=>t o i v m λc=>Q σ c
def Br(q:PE X o to)(hi:PE X i ti)(hs:Lv X t)
  (ha: ∀v,assign (.Subscript o i pos) X.env v=(do
   let j <-holding [v] (eval o X.env);let m <-holding [v,j] (eval i X.env)
   standAt pos
   holding [v,j,m] (setItem j m v)
   release [v,j,m] []):=by intro _;rfl):PG X (.Subscript o i pos) (gSub to ti t):=by
 intro pins s σ H v u Q I r h;refine wB (ð (xV (q pins s σ H _ I h) λj b ⟨x,w,I1,C,a⟩=>?_));refine wB (ð (xV (hi pins b σ w _ I1 a) λm F ⟨y,A,c,B,D⟩=>?_));refine wB (wpAny_standAt (wB (ð (xV (hs pins F σ A x y v j m u _ c C B r D) λ_ K ⟨G,E,J⟩=>?_))));exact wpAny_release (ZX (σ) G E J)
def F3(b:TE)(g:TG):TS:=λD σ H=>b σ H λx a=>g x σ a D.nx
def F4(c:PE X e te)(o:PG X tg g)(hs:swapsWithSole [tg] e pos.line X.env=pure false:=by rfl)(hw:swappedStores [tg] e X.env=pure none:=by rfl)
  (h1:(assignEach [tg] X.env).map (·.2)=[assign tg X.env]:=by rfl):PS X (.Assign [tg] e pos) (F3 te g):=by
 intro pins s σ H D I h;refine wpAny_Assign_stores (xV (c pins s σ H _ I h) λv b ⟨x,j,I1,m,a⟩=>?_) hs hw;rw[h1];exact xV (o pins b σ j x v _ I1 m a) λ_ u q=>q
def F5(j:X.N.Nodup)(hi:X.N[i]? =some x)(o:Loc X.env.scope x)(c:PE X e te)(hs:swapsWith e (some (.Name x pos')) pos.line X.env=pure false:=by rfl)(u:Q6 X x:=by first |exact .inl rfl|exact .inr rfl|assumption):
  PS X (.Assign [.Name x pos'] e pos) (F3 te (Lw i)):=by
 intro pins s σ H D I h;refine wpAny_Assign_Name (xV (c pins s σ H _ I h) λv w ⟨y,m,I1,q,a⟩=>?_) hs;exact YK I1 j hi o q (λA b=>(ZX _ m b a)) u
def zBV(v j u:TE)(b:V->V->Hp->VK->Prop)(c:TIp)(a:TSet):TS:=λD σ H=>v σ H λo q=>j σ q λi s=>b o i s λx w=>u σ w λy m=>c x y m λz H5=>a o i z H5 λH6=>D.nx σ H6
def zBW(X:Cx)(t:V->V->Hp->VK->Prop):Prop:=
 ∀(pins:L0)(s:Ō)(σ:St)(H:Hp)(o i:V)(b a:ō)(Q:VK),Inv X pins σ H s->RelV o b->RelV i a->t o i H Q->
  wpAny ↑5 X.A (getItem b a) (EP X pins σ Q) X.xe s
def Sn(W:PE X o to)(hi:PE X i ti)(M:zBW X tget)(B:PE X e te)(hp:PIp X op tip)(hs:Lv X tset)
  (ha: ∀j m new,augStore i j m new=(do holding [new,j,m] (setItem j m new);release [new,j,m] [];pure .next):=by intros;rfl):PS X (.AugAssign (.Subscript o i tpos) op e pos) (zBV to ti te tget tip tset):=by
 intro pins s σ H D I h;refine wpAny_AugAssign_SubscriptAny (xV (W pins s σ H _ I h) λj y ⟨b,G,I1,c,u⟩=>?_) ha;refine xV (hi pins y σ G _ I1 u) λm s2 ⟨q,J,S,a,q2⟩=>?_;refine xV (M pins s2 σ J b q j m _ S c a q2) λold K ⟨N,O,I3,P,q3⟩=>?_;refine xV (B pins K σ O _ I3 q3) λv L ⟨E,F,T,Q,Z⟩=>?_;refine xV (hp pins L σ F N E old v _ T P Q Z) λnew w ⟨U,H5,C,r5,Y⟩=>?_;exact xV (hs pins w σ H5 b q U j m new _ C c a r5 Y) λ_ s6 ⟨H6,I6,A⟩=>(ZX (σ) H6 I6 A)
end
section
def F7(c:TT)(q:TS):TS:=λD σ H=> ∃W:Nat->St->Hp->Prop,(∃m,W m σ H)/\ ∀m σ H,W m σ H->
 c σ H λb j=>if b=true then∃N:St->Hp->Prop,(∀a H',N a H'-> ∃o,o<m/\W o a H')/\q {D with nx:=N,ct:=N,bk:=D.nx} σ j else D.nx σ j
def Ly(O:PassesOwn ↑5 X.A X.env X.xe)(U:PT X c tc)(S:PSs X body tb):PS X (.While c body [] pos) (F7 tc tb):=by
 intro pins s σ H D I h;refine h.a λW k q=>?_;obtain ⟨P,Y⟩:=k;refine wpAny_While (codeAny_whileLoop (λn T=> ∃o H',Inv X pins o H' T/\W n o H') ?_ P (ZX (σ) H I Y));rintro n Q ⟨j,J,I1,Z⟩;refine Ĵ O (xV (U pins Q j J _ I1 (q n j J Z)) λb s2 ⟨K,L,u⟩=>?_)
 cases b with
 |true=>
  refine u.a λN M u=>?_;refine Ĵ O (xV (S pins s2 j K _ L u) λf s3 y=>?_)
  cases f with
  |next=>
   obtain⟨a,m,F,G⟩:=y;obtain⟨B,E,C⟩:=M a m G;exact⟨B,E,a,m,F,C⟩
  |cont=>
   obtain⟨a,m,F,G⟩:=y;obtain⟨B,E,C⟩:=M a m G;exact⟨B,E,a,m,F,C⟩
  |brk=>exact y
  |ret v=>exact y
 |false=>
  exact wpAny_execs_nil (ZX j K L u)
end
structure It where
 go:Nat->Hp->Prop
 yld:Nat->Hp->V->Hp->Prop
 stop:Nat->Hp->Prop
def rZ(X:Cx)(pins:L0)(H:Hp)(b:Addr):Prop:=
 H b=none/\b≠X.env.locals/\b∉X.fs/\(b∈X.ex\/X.s₀.heap.objs.size<=b)/\(∀x c,X.env.cells.lookup x=some c->c≠b)/\ ∀p∈X.pn++pins,p.1≠b
def Inv.fpOk{b:Addr}(I:↑1)(a:↑0<=b)(j:H' b=none):rZ X pins H' b:=by
 refine{j,ø (ä I.lt a),I.nofs a,.inr (ó I.sz a),λx c e z=>?_,λp m z=>?_}
 .obtain⟨v,q⟩:=I.cell x c e;exact absurd (ä q.lt (by rw[z];exact a)) (Į _)
 .exact absurd (ä (â (I.pin p m).1) (by rw[z];exact a)) (Į _)
abbrev F8(X:Cx):Prop:=X.calm=true
structure TurnC(C:Cx->Prop)(P:Ŏ)(w:World)(K:O0)(tg:Expr)(J:It)(fp:B9)(it:Addr)(tn:Nat->Heap->Prop):Prop where
 mem:it∈fp
 obj: ∀i h,tn i h-> ∀b∈fp, ∃o,h.get? b=some o/\ ∀v,o.data≠.cell v
 keep: ∀i h h',tn i h->(∀b∈fp, ∀o,h.get? b=some o->h'.get? b=some o)->tn i h'
 item: ∀(X:Cx),X.prog=P->X.w=w->X.K=K->C X-> ∀(i:Nat)(pins:L0)(s:Ō)(σ:St)(H:Hp)(E:VP),Inv X pins σ H s->(∀b∈fp,rZ X pins H b)->tn i s.heap->J.go i H->
  wpAny (model P w) X.A (pyNext (.ref it)) (λr s1=> ∃u,r=some u/\
   wpAny (model P w) X.A (letOwnedTupleGo tg (.ref it) u) (λ_ s2=> ∃x H',Inv X pins σ H' s2/\RelV x u/\J.yld i H x H'/\tn (i+1) s2.heap/\ ∀b∈fp,H' b=none) E s1) E s
 done: ∀(X:Cx),X.prog=P->X.w=w->X.K=K->C X-> ∀(i:Nat)(pins:L0)(s:Ō)(σ:St)(H:Hp)(E:VP),Inv X pins σ H s->(∀b∈fp,rZ X pins H b)->tn i s.heap->J.stop i H->
  wpAny (model P w) X.A (pyNext (.ref it)) (λr s1=>r=none/\Inv X pins σ H s1) E s
 self: ∀(A:Around)(i:Nat)(s:Ō)(Q:VP)(E:VP),tn i s.heap->Q (.ref it) s->wpAny (model P w) A (pyIter (.ref it)) Q E s
abbrev Turn:=TurnC F8
abbrev TI:=St->Hp->(It->Hp->Prop)->Prop
def zBX(C:Cx->Prop)(X:Cx)(pins:L0)(σ:St)(tg:Expr)(R:It->Hp->Prop)(a:ō)(m:Ō):Prop:=
 ∃(c:Addr)(fp:B9)(j:Nat->Heap->Prop)(J:It)(H':Hp),a=.ref c/\Inv X pins σ H' m/\TurnC C X.prog X.w X.K tg J fp c j/\j 0 m.heap/\(∀b∈fp,rZ X pins H' b)/\R J H'
abbrev PIE:=zBX F8
def zBY(C:Cx->Prop)(X:Cx)(tg iter:Expr)(a:TI):Prop:=
 ∀(pins:L0)(s:Ō)(σ:St)(H:Hp)(R:It->Hp->Prop),Inv X pins σ H s->a σ H R->
  wpAny ↑5 X.A (eval iter X.env) (λv b=>wpAny ↑5 X.A (pyIter v) (zBX C X pins σ tg R) X.xe b) X.xe s
abbrev PI:=zBY F8
def Et(b:s.heap.get? it=some o)(a:o.cls=.type n)(hd:o.data=.fields vs)
  (hn:["enumerate","zip","dict_itemiterator","dict_reverseitemiterator","odict_iterator","itertools.zip_longest","itertools.pairwise"].contains n=false) (hQ:Q () s):wpAny M A (letOwnedTupleGo tg (.ref it) u) Q E s:=by
 cases tg<;>first
  |exact wP hQ
  |(cases u<;>first
    |exact wP hQ
    |(refine wB (wpAny_load b ?_)
      rw[a,hd];show wpAny M A (if _=true then _ else _) Q E s;rw[iN (by intro h;rw[hn]at h;cases h)];exact wP hQ))
noncomputable def zFR(K:O0)(a:Addr):It:=
 {λi H=> ∃xs x,SqL K H a xs/\xs[i]? =some x,λi H x H'=>H'=H/\ ∀xs,SqL K H a xs->xs[i]? =some x,λi H=> ∃xs,SqL K H a xs/\↑7<=i}
noncomputable def zFS(K:O0)(a:Addr):It:=
 {λi H=> ∃xs x,SqT K H a xs/\xs[i]? =some x,λi H x H'=>H'=H/\ ∀xs,SqT K H a xs->xs[i]? =some x,λi H=> ∃xs,SqT K H a xs/\↑7<=i}
noncomputable def zFT(lo:Int)(n:Nat):It:={λi _=>i<n,λi H x H'=>H'=H/\x=.int (lo+i),λi _=>n<=i}
theorem RY{K:O0}(a it):Turn P w K tg (zFR K a) [it] it (λi h=>h.IsListIter it a i) where
 mem:=by simp
 obj:=λi h st b hb=>by
  have e:=by simpa using hb
  subst e;refine st.c λo e c d=>?_;exact Z3 o e (λv z=>by rw[d]at z;cases z)
 keep:=λi h h' st k=>st.at λo e=>k it (by simp) o e
 item:=by intro X hP hw hK hc i pins s σ H E I hf st hg;subst hP hw hK;refine hg.d λxs x hq hx=>?_;refine(I.list hq).c λits rv p hz=>?_;refine(rv.get hx).a λu hu ru=>?_;refine(hf it (by simp)).e λf0 f1 f2 f3 f4 f5=>?_;refine wpAny_pyNext_list_item st p.isList (by simpa using hu) λh' st' sb=>?_;refine(id st').c λo e c d=>?_;exact Z3 u rfl (Et e c d ↑15 (Ys x H (I.turned (λb o hb e=>(sb.2 b hb).trans e) f0 f1 f3 f4 f5) ru {rfl,λys hy=>by rw[I.list_inj hy hq];exact hx} st' (λb hb=>(hf b hb).1)))
 done:=by intro X hP hw hK hc i pins s σ H E I hf st hg;subst hP hw hK;refine hg.a λxs hq hx=>?_;refine(I.list hq).c λits rv p hz=>?_;refine(hf it (by simp)).e λf0 f1 f2 f3 f4 f5=>?_;have hl:=rv.length;exact wpAny_pyNext_list_end (I.ok.hd hc) st p.isList (by simp;lia) λh' eb=>{rfl,I.turned (λb o hb e=>eb b o hb e) f0 f1 f3 f4 f5}
 self:=λ_ _ _ _ _ st h=>wpAny_pyIter_listiter st h
theorem NF{K:O0}(a it):Turn P w K tg (zFS K a) [it] it (λi h=>h.IsTupleIter it a i) where
 mem:=by simp
 obj:=λi h st b hb=>by
  have e:=by simpa using hb
  subst e;refine st.c λo e c d=>?_;exact Z3 o e (λv z=>by rw[d]at z;cases z)
 keep:=λi h h' st k=>st.at λo e=>k it (by simp) o e
 item:=by intro X hP hw hK hc i pins s σ H E I hf st hg;subst hP hw hK;refine hg.d λxs x hq hx=>?_;refine(I.tuple hq).c λits rv p hz=>?_;refine(rv.get hx).a λu hu ru=>?_;refine(hf it (by simp)).e λf0 f1 f2 f3 f4 f5=>?_;refine wpAny_pyNext_tuple_item st p (by simpa using hu) λh' st' sb=>?_;refine(id st').c λo e c d=>?_;exact Z3 u rfl (Et e c d ↑15 (Ys x H (I.turned (λb o hb e=>(sb.2 b hb).trans e) f0 f1 f3 f4 f5) ru {rfl,λys hy=>by rw[I.tuple_inj hy hq];exact hx} st' (λb hb=>(hf b hb).1)))
 done:=by intro X hP hw hK hc i pins s σ H E I hf st hg;subst hP hw hK;refine hg.a λxs hq hx=>?_;refine(I.tuple hq).c λits rv p hz=>?_;refine(hf it (by simp)).e λf0 f1 f2 f3 f4 f5=>?_;have hl:=rv.length;exact wpAny_pyNext_tuple_end (I.ok.hd hc) st p (by simp;lia) λh' eb=>{rfl,I.turned (λb o hb e=>eb b o hb e) f0 f1 f3 f4 f5}
 self:=λ_ _ _ _ _ st h=>wpAny_pyIter_tupleiter st h
theorem Bs{K:O0}(it)(lo)(n):Turn P w K tg (zFT lo n) [it] it (λi h=>IsRangeIter h it (lo+ i  * 1) ( n  -  i ) 1) where
 mem:=by simp
 obj:=λi h st b hb=>by
  have e:=by simpa using hb
  subst e;exact Z3 _ st (λv z=>by cases z)
 keep:=λi h h' st k=>k it (by simp) _ st
 item:=by intro X hP hw hK hc i pins s σ H E I hf st hg;subst hP hw hK;refine(hf it (by simp)).e λf0 f1 f2 f3 f4 f5=>?_;refine(Walks.range (prog:=X.prog) (w:=X.w) (I.ok.hd hc) it lo 1 n).item i s _ _ hg st λv h' tk hv st' kk=>?_;obtain⟨t,rfl⟩:=hv;refine Z3 _ rfl (Et st' rfl rfl ↑15 (Ys (.int _) H (I.turned (λb o hb e=>kk b o (by simpa using hb) e) f0 f1 f3 f4 f5) {t,?_} ⟨rfl,rfl⟩ st' (λb hb=>(hf b hb).1)));rw[Int.mul_one]
 done:=by intro X hP hw hK hc i pins s σ H E I hf st hg;refine(hf it (by simp)).e λf0 f1 f2 f3 f4 f5=>?_;exact wpAny_pyNext_range_end (I.ok.hd hc) st (by have:n<=i:=hg;lia) λh' eb=>{rfl,I.turned (λb o hb e=>eb b o hb e) f0 f1 f3 f4 f5}
 self:=λ_ _ _ _ _ st h=>wpAny_pyIter_rangeiter st h
section
def zBZ(K:O0)(c:TE):TI:=λσ H R=>c σ H λx b=> ∃a,x=.ref a/\(∃xs,SqL K b a xs)/\R (zFR K a) b
def iTup(K:O0)(c:TE):TI:=λσ H R=>c σ H λx b=> ∃a,x=.ref a/\(∃xs,SqT K b a xs)/\R (zFS K a) b
def So(A:PE X l tl):PI X tg l (zBZ X.K tl):=by
 intro pins s σ H R I h;refine xV (A pins s σ H _ I h) λv B ⟨x,u,I1,w,c⟩=>?_;refine c.c λa e k q=>?_;obtain ⟨xs,j⟩:=k;subst e;subst w;refine(I1.list j).c λy D p C=>?_;refine ĭ p.isList ?_;refine Yq _ _ _ _ u rfl (I1.kept λb o e=>hP0 _ e) (RY a _) (Z0 _ (á _ rfl) rfl rfl) (λb m=>?_) q;have e:=by simpa using m
 subst e;exact I1.fpOk (à _) (I1.hok.fresh (à _))
def F9(A:PE X l tl):PI X tg l (iTup X.K tl):=by
 intro pins s σ H R I h;refine xV (A pins s σ H _ I h) λv B ⟨x,u,I1,w,c⟩=>?_;refine c.c λa e k q=>?_;obtain ⟨xs,j⟩:=k;subst e;subst w;refine(I1.tuple j).c λy D p C=>?_;refine wpAny_pyIter_tuple p ?_;refine Yq _ _ _ _ u rfl (I1.kept λb o e=>hP0 _ e) (NF a _) (Z0 _ (á _ rfl) rfl rfl) (λb m=>?_) q;have e:=by simpa using m
 subst e;exact I1.fpOk (à _) (I1.hok.fresh (à _))
theorem Lz{lo:Int}(I:↑1)(c: -(2 ^ 62)<=lo)(C:lo<2 ^ 62)(j: -(2 ^ 62)<=hi)(B:hi<2 ^ 62)
  (q:R (zFT lo (hi - lo).toNat) H):wpAny ↑5 X.A (pyIter (.ref ↑0)) (PIE X pins σ tg R) E {s with heap:=s.heap.push {cls:=.type "range",data:=.fields #[.int lo t,.int hi u,.int 1 v]},toks:=tk}:=by
 refine wpAny_pyIter_range (IsRange.new ..) (small_one c C j B) ?_;have I1:Inv X pins σ H {s with heap:=s.heap.push {cls:=.type "range",data:=.fields #[.int lo t,.int hi u,.int 1 v]},toks:=tk}:=I.kept λb o e=>hP0 _ e
 refine Yq _ _ _ _ H rfl (I1.kept λb o e=>hP0 _ e) (Bs _ lo (hi - lo).toNat) ?_ (λb y=>?_) q
 .have a:lo+((0:Nat):Int) * 1=lo:=by simp
  have m:(((hi - lo).toNat:Nat):Int) - ((0:Nat):Int)=Builtin.Range.rangeSize lo hi 1:=by rw[rangeSize_one];split<;>lia
  show IsRangeIter _ _ _ _ 1;rw[a,m];exact á _ rfl
 .have e:b=(s.heap.push {cls:=.type "range",data:=.fields #[.int lo t,.int hi u,.int 1 v]}).objs.size:=by simpa using y
  subst e;exact I1.fpOk (à _) (I1.hok.fresh (à _))
def zCA(a:TA):TI:=λσ H R=>a σ H λvs b=> ∃j:Int,vs=[.int j]/\ -(2 ^ 62)<=j/\j<2 ^ 62/\R (zFT 0 j.toNat) b
theorem Hy(u:Gl X "range")(c:X.mg "range"=none)(v:PA X [a] ta)(hs:starEach [a] X.env=[(false,eval a X.env)]:=by rfl):PI X tg (.Call (.Name "range" p) [a] [] pos) (zCA ta):=by
 intro pins s σ H R I h;refine Call_ (pT I u c boot_range (ĉ (xV (v pos pins s σ H _ I h) λA w ⟨vs,y,I1,m,b⟩=>?_) hs rfl));obtain⟨j,e,b,o,q⟩:=b;subst e
 cases m with
 |cons r rr=>
  cases rr;obtain⟨t,rfl⟩:=r;exact call_range_1 (Lz I1 #[0] #[0] b o (by simpa using q))
def tFor(j:TI)(g:TG)(o:TS):TS:=λD σ H=>j σ H λJ s=> ∃W:Nat->Nat->St->Hp->Prop,(∃m,W 0 m σ s)/\ ∀i m σ H,W i m σ H->
 (J.stop i H/\D.nx σ H)\/(J.go i H/\ ∃N:St->Hp->Prop,(∀a H',N a H'-> ∃c,c<m/\W (i+1) c a H')/\ ∀x H',J.yld i H x H'->g x σ H' λb q=>o {D with nx:=N,ct:=N,bk:=D.nx} b q)
noncomputable def EO(fp:B9)(h:Heap):List (Addr×Obj):=fp.filterMap λb=>(h.get? b).map λo=>(b,o)
def EQ(a:b∈fp)(e:h.get? b=some o):(b,o)∈EO fp h:=mem_filterMap.mpr {b,a,by rw[e];rfl}
def Hz(j:p∈EO fp h):p.1∈fp/\h.get? p.1=some p.2:=by
 refine(mem_filterMap.mp j).a λb a e=>?_
 cases q:h.get? b with
 |none=>rw[q]at e;cases e
 |some o=>
  rw[q]at e;have c:_=p:=è e;subst c;exact⟨a,q⟩
def Inv.pinned(I:↑1)(y: ∀b∈fp,rZ X pins H b)(u: ∀b∈fp, ∃o,s.heap.get? b=some o/\ ∀v,o.data≠.cell v):Inv X (pins++EO fp s.heap) σ H s:=
 I.pins_of λp w=>(ì.mp w).elim (λz=>I.pin p (û _ z)) λz=>by obtain⟨c,e⟩:=Hz z;refine(y p.1 c).g λq m j _=>?_;refine(u p.1 c).a λo a d=>?_;rw[e]at a;cases a;exact⟨e,q,m,j,d⟩
def Inv.unpinned(I:Inv X (pins++pl) σ H s):Inv X pins σ H s:=I.pins_of λp a=>I.pin p (û _ (ę _ a))
def G1(K:PassesOwn ↑5 X.A X.env X.xe)(hc:X.calm=true)(hi:PI X tg iter wi)(hg:PG X tg g)(j:PSs X body tb)
  (hs: ∀x,foldedSetIterable iter X.env x=pure x:=by intro _;rfl):PS X (.For tg iter body [] pos) (tFor wi g tb):=by
 intro pins s σ H D I h;refine wpAny_For (xV (hi pins s σ H _ I h) λv s1 h1=>xV h1 λaa s2 h2=>?_) hs;obtain⟨it,fp,tn,J,H2,e,I2,T,U,f2,W,⟨m0,w0⟩,L⟩:=h2;subst e;have y: ∀{H':Hp},(∀b∈fp,H' b=none)-> ∀b∈fp,rZ X pins H' b:=λhn b j=>{hn b j,(f2 b j).2}
 refine codeAny_forLoop_any (λn s'=> ∃i C H',Inv X pins C H' s'/\tn i s'.heap/\(∀b∈fp,H' b=none)/\W i n C H') ?_ m0 (Ze 0 (σ) H2 I2 U (λb j=>(f2 b j).1) w0);rintro n s3 ⟨i,q,P,I3,G,M,w3⟩;rcases L i n q P w3 with⟨stop,qn⟩|⟨go,N,hN,step⟩
 .refine Ĵ K (xV (T.done X rfl rfl rfl hc i pins s3 q P X.xe I3 (y M) G stop) λr s4 ⟨S,I4⟩=>?_);subst S;exact wpAny_execs_nil (ZX q P I4 qn)
 .refine Ĵ K (xV (T.item X rfl rfl rfl hc i pins s3 q P X.xe I3 (y M) G go) λr s4 ⟨u,S,h4⟩=>?_);subst S;refine Ĵ K (xV h4 λ_ s5 ⟨x,H5,I5,r5,y5,F,Y⟩=>?_);refine Ĵ K (xV (hg _ s5 q H5 x u _ (I5.pinned (y Y) (T.obj _ _ F)) r5 (step x H5 y5)) λ_ s6 ⟨Q,H6,I6,q6⟩=>?_);refine Ĵ K (xV (j _ s6 Q H6 _ I6 q6) λf Z E=>?_);have B: ∀{a:St}{H7:Hp},Inv X _ a H7 Z->N a H7-> ∃m,m<n/\ ∃i C H',Inv X pins C H' Z/\tn i Z.heap/\(∀b∈fp,H' b=none)/\W i m C H':=λ{a H7} c O=>by refine(hN a H7 O).a λm' hm w7=>?_;refine{m',hm,_,a,H7,c.unpinned,T.keep _ _ _ F λb j o e=>(c.pin _ (û _ (û _ (EQ j e)))).1,λb j=>?_,w7};refine(T.obj _ _ F b j).a λo e d=>?_;exact(c.pin _ (û _ (û _ (EQ j e)))).2.1
  cases f with
  |next=>refine E.d λa H7 c O=>?_;exact B c O
  |cont=>refine E.d λa H7 c O=>?_;exact B c O
  |brk=>refine E.d λa H7 c E=>?_;exact ZX a H7 c.unpinned E
  |ret v=>refine E.h λx7 a H7 k=>k.f λc r7 E=>?_;exact Zj x7 a H7 ⟨c.unpinned,r7,E⟩
end
abbrev R2:=V->V->Hp->VK->Prop
def OpR(X:Cx)(f:ō->ō->Sem ō)(r:R2):Prop:=
 ∀(pins:L0)(s:Ō)(σ:St)(H:Hp)(x y:V)(v u:ō)(Q:VK),Inv X pins σ H s->RelV x v->RelV y u->r x y H Q->
  wpAny ↑5 X.A (f v u) (EP X pins σ Q) X.xe s
def UnR(X:Cx)(f:ō->Sem ō)(r:V->Hp->VK->Prop):Prop:=
 ∀(pins:L0)(s:Ō)(σ:St)(H:Hp)(x:V)(v:ō)(Q:VK),Inv X pins σ H s->RelV x v->r x H Q->
  wpAny ↑5 X.A (f v) (EP X pins σ Q) X.xe s
def CallR(X:Cx)(f:ō)(r:List V->Hp->VK->Prop):Prop:=
 ∀(pins:L0)(s:Ō)(σ:St)(H:Hp)(xs:List V)(us:A0)(Q:VK),Inv X pins σ H s->Vals xs us->r xs H Q->
  wpAny ↑5 X.A (call f us) (EP X pins σ Q) X.xe s
def TruR(X:Cx)(r:V->Hp->(Bool->Hp->Prop)->Prop):Prop:=
 ∀(pins:L0)(s:Ō)(σ:St)(H:Hp)(x:V)(v:ō)(Q:Bool->Hp->Prop),Inv X pins σ H s->RelV x v->r x H Q->
  wpAny ↑5 X.A (truthy v) (TP X pins σ Q) X.xe s
def zFU(r:R2)(a b:TE):TE:=λσ H Q=>a σ H λx c=>b σ c λy j=>r x y j Q
def tUn(r:V->Hp->VK->Prop)(a:TE):TE:=λσ H Q=>a σ H λx b=>r x b Q
def rI(C:Int->Int->Prop)(g:Int->Int->V):R2:=λx y H Q=> ∃i j,x=.int i/\y=.int j/\C i j/\Q (g i j) H
def Sq(g:Int->Int->V):R2:=λx y H Q=> ∃i j,x=.int i/\y=.int j/\Q (g i j) H
def rU(g:Int->V):V->Hp->VK->Prop:=λx H Q=> ∃i,x=.int i/\Q (g i) H
section
def G2(K:PE X a ta)(E:PE X b tb){R:V->V->Hp->Prop}(I:↑1)
  (h:ta σ H λx D=>tb σ D λy j=>R x y j)  {f:ō->ō->Sem ō}
  (hf: ∀v u B x y j,Inv X pins σ j B->RelV x v->RelV y u->R x y j->wpAny ↑5 X.A (f v u) Q X.xe B):
  wpAny ↑5 X.A (eval a X.env) (λv q=>wpAny ↑5 X.A (eval b X.env) (λu m=>wpAny ↑5 X.A (f v u) Q X.xe m) X.xe q) X.xe s:=by
 refine xV (K pins s σ H _ I h) λv C ⟨x,D,I1,G,c⟩=>?_;refine xV (E pins C σ D _ I1 c) λu B ⟨y,j,o,F,J⟩=>?_;exact hf v u B x y j o G F J
def zCC(o:UnR X (unaryOp op) r)(m:PE X a ta):PE X (.UnaryOp op a pos) (tUn r ta):=by rw[22];exact UnaryOp_ (xV (m pins s σ H _ I h) λv j ⟨x,q,I1,c,b⟩=>o pins j σ q x v Q I1 c b)
def zBG{g:Int->Int->Int}
  (rule: ∀ i j  t u  s  Q  E ,C i j->Q (.int (g i j) s.toks) {s with toks:=s.toks+1}->wpAny ↑5 X.A (f (.int i t) (.int j u)) Q E s):
  OpR X f (rI C λi j=>.int (g i j)):=by
 intro pins s σ H x y v u Q I m b h;refine h.l λi j k o a q=>?_;subst k;subst o;obtain⟨t,rfl⟩:=m;obtain⟨c,rfl⟩:=b;exact rule i j t c s _ _ a (Z2 (.int _) H (I.tok _) {_,rfl} q)
def Ss{g:Int->Int->Int}
  (rule: ∀ i j  t u  s  Q  E ,Q (.int (g i j) s.toks) {s with toks:=s.toks+1}->wpAny ↑5 X.A (f (.int i t) (.int j u)) Q E s):
  OpR X f (Sq λi j=>.int (g i j)):=by
 intro pins s σ H x y v u Q I c a h;refine h.b λi j k m q=>?_;subst k;subst m;obtain⟨t,rfl⟩:=c;obtain⟨b,rfl⟩:=a;exact rule i j t b s _ _ (Z2 (.int _) H (I.tok _) {_,rfl} q)
def opB0{g:Int->Int->Bool}
  (rule: ∀ i j  t u  s  Q  E ,Q (.bool (g i j)) s->wpAny ↑5 X.A (f (.int i t) (.int j u)) Q E s):
  OpR X f (Sq λi j=>.bl (g i j)):=by
 intro pins s σ H x y v u Q I c a h;refine h.b λi j k m q=>?_;subst k;subst m;obtain⟨t,rfl⟩:=c;obtain⟨b,rfl⟩:=a;exact rule i j t b s _ _ (Z2 (.bl _) H I rfl q)
def CPow(i j:Int):Prop:=0<=j/\j<=1000000/\i.natAbs<2 ^ 64
def CMul(i j:Int):Prop:=(-(2 ^ 64)<i/\i<2 ^ 64)\/(-(2 ^ 64)<j/\j<2 ^ 64)
def CMul.ok(h:CMul i j):IntMulOk i j:=by
 rcases h with⟨h1,h2⟩|⟨h1,h2⟩
 .exact .of_left (intBits_le_64 h1 h2)
 .exact .of_right (intBits_le_64 h1 h2)
def Bt(k):(0:Int)<=2 ^ k:=by rw[two_pow_cast];exact Int.natCast_nonneg _
def G3:OpR X (binaryOp .Add) (Sq λi j=>.int (i+j)):=Ss λ_ _ _ _ _ _ _ q=>add_int q
def unI{g:Int->Int}
  (rule: ∀ i  t  s  Q  E ,Q (.int (g i) s.toks) {s with toks:=s.toks+1}->wpAny ↑5 X.A (f (.int i t)) Q E s):
  UnR X f (rU λi=>.int (g i)):=by
 intro pins s σ H x v Q I a h;refine h.a λi b q=>?_;subst b;obtain⟨t,rfl⟩:=a;exact rule i t s _ _ (Z2 (.int (g i)) H (I.tok _) {_,rfl} q)
end
section
variable{b:Expr}
def Bu(I:↑1)(q:Q (.bl k) H)(e:k=k'):EP X pins σ Q (.bool k') s:=by subst e;exact Z2 (.bl k) H I rfl q
def Zx:OpR X (compareOp .Gt) (Sq λi j=>.bl (decide (j<i))):=opB0 λ_ _ _ _ _ _ _ q=>gt_int q
def Ia:OpR X (compareOp .In) (λx y H Q=> ∃i j,x=.str i/\y=.str j/\Q (.bl (!(Builtin.Str.occurrences j i 0 j.length 1).isEmpty)) H):=by intro pins s σ H x y v u Q I b a h;refine h.b λi j k m q=>?_;subst k;subst m;obtain⟨t,rfl⟩:=b;obtain⟨c,rfl⟩:=a;exact in_str (Bu I q rfl)
def UK:OpR X (compareOp .NotIn) (λx y H Q=> ∃i j,x=.str i/\y=.str j/\Q (.bl (!(!(Builtin.Str.occurrences j i 0 j.length 1).isEmpty))) H):=by intro pins s σ H x y v u Q I b a h;refine h.b λi j k m q=>?_;subst k;subst m;obtain⟨t,rfl⟩:=b;obtain⟨c,rfl⟩:=a;exact notIn_str (Bu I q rfl)
def OpR.or(h:OpR X f r)(h':OpR X f r'):OpR X f (λx y H Q=>r x y H Q\/r' x y H Q):=by
 intro pins s σ H x y v u Q I b a q;rcases q with q|q
 .exact h pins s σ H x y v u Q I b a q
 .exact h' pins s σ H x y v u Q I b a q
def Ma(b)(h:op≠.In:=by decide)(j:op≠.NotIn:=by decide):behindInMarks op b=false:=by
 have a:(op==CmpOp.In)=false:=by cases op<;>first |rfl|exact absurd rfl h
 have c:(op==CmpOp.NotIn)=false:=by cases op<;>first |rfl|exact absurd rfl j
 cases b<;>simp[behindInMarks,a,c]
def zCE(t:TE):TT:=λσ H Q=>t σ H λx H'=> ∃k,x=.bl k/\Q k H'
def H9(K:O0)(x:V)(H:Hp)(k:Bool):Prop:=
 match x with
 |.non=>k=false
 |.bl b=>k=b
 |.int i=>k=(i !=0)
 |.str y=>y.length<=sizeLine/\k=((y.length:Int) !=0)
 |.byt y=>y.size<=sizeLine/\k=((y.size:Int) !=0)
 |.ref p=>(∃xs,SqL K H p xs/\k= !xs.isEmpty)\/(∃xs,SqT K H p xs/\k= !xs.isEmpty)\/ ∃a,H p=some (.dK a)/\k= !a.isEmpty
 |_=>False
def NG(r:Vals xs its):(!its.toArray.isEmpty)= !xs.isEmpty:=by cases r<;>simp
def ER: sizeLine <2 ^ 63:=by rw[ý];decide
theorem J3:TruR X (λx H Q=> ∃k,H9 X.K x H k/\Q k H):=by
 intro pins s σ H x v Q I j h;obtain⟨k,e,q⟩:=h;have hs:=ý
 cases x with
 |non=>
  subst j;have a:=e;subst a;exact truthy_none ⟨H,I,q⟩
 |bl b=>
  subst j;have a:=e;subst a;exact Ċ ⟨H,I,q⟩
 |int i=>
  obtain⟨t,rfl⟩:=j;have a:=e;subst a;exact PySem.P.truthy_int ⟨H,I,q⟩
 |str y=>
  obtain⟨t,rfl⟩:=j;obtain⟨B,a⟩:y.length<=sizeLine/\k=_:=e;subst a;exact PySem.P.truthy_str #[0] {H,I.tok _,q}
 |byt y=>
  obtain⟨t,rfl⟩:=j;obtain⟨B,a⟩:y.size<=sizeLine/\k=_:=e;subst a;exact PySem.W.truthy_bytes #[0] {H,I.tok _,q}
 |ref p=>
  subst j;have a:=e;rcases a with⟨xs,hx,a⟩|⟨xs,hx,a⟩|⟨kvs,hx,a⟩
  .subst a;obtain⟨u,r,o,w⟩:=I.list hx;have c:=r.length;exact wpAny_truthy_list o.isList (by simp only[sA];lia) (Z3 H (I.tok _) (by rw[NG r];exact q))
  .subst a;obtain⟨u,r,o,w⟩:=I.tuple hx;have c:=r.length;exact truthy_tuple o (by simp only[sA];lia) (Z3 H (I.tok _) (by rw[NG r];exact q))
  .subst a;obtain⟨w,A,vs,r,m⟩:kvs.length<=sizeLine/\_=false/\ ∃vs,KV kvs vs/\s.heap.DictOf _ p vs:=I.hok p _ hx;have c:=Paired.length r;exact wpAny_truthy_dict A m #[0] (Z3 H (I.tok _) (by rw[(show (!vs.isEmpty)= !kvs.isEmpty by cases r<;>rfl)];exact q))
 |_=>exact e.elim
def Bw:OpR X (binaryOp .Add) (λx y H Q=> ∃i j,x=.str i/\y=.str j/\i.length+j.length<=sizeLine/\Q (.str (i++j)) H):=by intro pins s σ H x y v u Q I c a h;refine h.l λi j k A m q=>?_;subst k;subst A;obtain⟨t,rfl⟩:=c;obtain⟨b,rfl⟩:=a;exact add_str (λb o=>(Z2 (.str _) H (I.tok _) {_,rfl} q)) m
def vals1(r:Vals [x] us): ∃u,us=[u]/\RelV x u:=by
 cases r with
 |cons r1 r2=>cases r2;exact Z3 _ rfl r1
def vals2(r:Vals [x,y] us): ∃u j,us=[u,j]/\RelV x u/\RelV y j:=by
 cases r with
 |cons r1 r2=>
  cases r2 with
  |cons r3 r4=>cases r4;exact Z2 _ _ rfl r1 r3
end
structure ObjM(h:Heap)(x dx C:Addr)(mA:G0):Prop where
 obj:h.get? x=some (PySem.W.instObj C dx)
 ns:h.Ns1 dx mA
 ne:dx≠x
def ObjM.look(I:ObjM h x dx C mA): ∃j,PySem.W.InstAt h x (PySem.W.instObj C dx) C (some j)/\ ∀name,PySem.W.lookIn name j=some (mA name):=
 let ⟨j,c,v⟩:=(show ∃j,h.get? dx=some j/\ ∀name,PySem.W.lookIn name j=some (mA name) by
   refine(I.ns).i λo es A c hd u _ s=>?_;refine Z3 o c (λname=>?_);have e:=s name;unfold nsFind findBy at e;rw[<-Array.find?_toList]at e;unfold PySem.W.lookIn;rw[hd];dsimp only;split
   .rename_i y q;rw[q]at e;exact congrArg some e
   .rename_i q;rw[q]at e;have a:es.toList.any (·.refKey)=false:=by rw[List.any_eq_false];intro y m;refine(u y (Array.mem_toList_iff.mp m)).k λz t b=>?_;simp[DictEntry.refKey,b]
    have w: ¬es.toList.any (·.refKey)=true:=by rw[a];exact xF0
    rw[iN w];exact congrArg some e)
 (Z3 j ⟨I.obj,rfl,rfl,c⟩ v)
section
variable{s:Ō}{K:O0}
def Mc(X:K.In s.heap)(I:ObjM s.heap x dx C mA)(a:PySem.W.plainGet K C name=true)
  (hf:PySem.W.findIn K (.ref C) name=some (some (.ref f))) (ht:PySem.W.isFn K (.ref f)=true) (hv:mA name=none) (h:Q (.ref f,[.ref x]) s):
  wpAny ↑6 A (getMethod (.ref x) name pl) Q E s:=by
 refine I.look.a λc J b=>?_;exact PySem.W.method_fn X J (PySem.W.plainGet_of a).1 (PySem.W.plainGet_of a).2 hf (ĺ.mp ht) (by show(PySem.W.lookIn name c).map _=some false;rw[b,hv];rfl) h
theorem Sy(X:K.In s.heap)(I:ObjM s.heap x dx C mA)
  (hs:PySem.W.findIn K (.ref C) "__setattr__"=some (some (.builtin "object.__setattr__"))) (hp:PySem.W.plainOver K C=true) (ht:PySem.W.takerIn K C name=some none) (hh:PySem.W.hasDictIn K C=true)
  (hw:PySem.Within mA ns) (hsz:ns.length<=sizeLine)
  (h: ∀h',ObjM h' x dx C (λy=>if y=name then some v else mA y)->Heap.SameBut dx s.heap h'->Q () {s with heap:=h',toks:=s.toks+2}):
  wpAny ↑6 A (setAttr (.ref x) name v) Q E s:=by
 refine I.look.a λG J L=>?_;refine PySem.W.set_plain X J hs (PySem.W.osa_open X J hp ht λb=>?_);refine(PySem.W.any_some hh).a λcd u o=>?_;have D:=I.obj;refine wB (wP (wB (wB (wpAny_loadPart D (wB (PySem.W.Looks.here (PySem.W.looks_clsIn X u) ?_))))));rw[o];refine wP (wB (wP (wB ?_)));refine wpAny_nsSet1 I.ns λh' c a=>?_;refine(c.count (PySem.Within.cons name v hw)).h λH F B k=>k.f λj m q=>?_;refine wB (wpAny_lookBehind j (by rw[m];exact pastItsLine_dict (ó q (by rw[lC];lia))) ?_);exact wP (h _ {(a.2 _ (Ne.symm I.ne)).trans I.obj,c,I.ne} a)
def Md(X:K.In s.heap)(b:PySem.W.makesIn K C=true)
  (hi:PySem.W.findIn K (.ref C) "__init__"=some (some (.ref f))) (hf:PySem.W.typeIn K (.ref f)=some (.type "function"))
  (h:codeAny ↑6 (A.under (.builtin "type.__call__" {.ref C::vs,kw})) (.call (.ref f) {.ref (↑0+1)::vs,kw}) (PySem.W.InitBack (↑0+1) R)
   {s with heap:=(s.heap.push PySem.W.emptyDict).push (PySem.W.instObj C ↑0)}):
  codeAny ↑6 A (.call (.ref C) ⟨vs,kw⟩) R s:=by
 exact PySem.W.make_core (PySem.W.makes_of X b) (PySem.W.looks_findIn X hi) (λa=>PySem.W.bind_fn X a hf) (.inl rfl) h
end
noncomputable def DO(f:Str)(v:V):List (Str×V)->List (Str×V)
 |[]=>[(f,v)]
 |(g,x)::r=>if g=f then(g,v)::r else(g,x)::DO f v r
theorem KH(f g)(v): ∀fs:List (Str×V),(DO f v fs).lookup g=if g=f then some v else fs.lookup g
 |[]=>by
  show List.lookup g [_]=_;by_cases h:g=f
  .have j:_=true:=ĺ.mpr h;simp only[List.lookup,j,iP h]
  .have j:_=false:=Ĉ.mpr h;simp only[List.lookup,j,iN h]
 |(k,x)::r=>by
  have b:=KH f g v r;rw[show DO f v _=(if k=f then _::r else _::DO f v r)from rfl];by_cases a:k=f
  .rw[iP a];by_cases h:g=k
   .have j:_=true:=ĺ.mpr h;simp only[List.lookup,j,iP (h.trans a)]
   .have j:_=false:=Ĉ.mpr h;simp only[List.lookup,j,iN (λe:g=f=>h (e.trans a.symm))]
  .rw[iN a];by_cases h:g=k
   .have j:_=true:=ĺ.mpr h;simp only[List.lookup,j,iN (λe:g=f=>a (h.symm.trans e))]
   .have j:_=false:=Ĉ.mpr h;simp only[List.lookup,j];exact b
theorem IK(f)(v): ∀fs:List (Str×V),f∈(DO f v fs).map (·.1)/\ ∀g,g∈fs.map (·.1)->g∈(DO f v fs).map (·.1)
 |[]=>{by simp[DO],λg h=>by simp at h}
 |(k,x)::r=>by
  obtain⟨j,m⟩:=IK f v r;rw[show DO f v _=(if k=f then _::r else _::DO f v r)from rfl];by_cases a:k=f
  .rw[iP a];subst a;exact{by simp,λg h=>by simpa using h}
  .rw[iN a];refine{?_,λg h=>?_}
   .rw[ç];exact mO _ j
   .rw[ç]at h ⊢;rcases mC.mp h with e|e
    .exact mC.mpr (.inl e)
    .exact mO _ (m g e)
theorem KI(f)(v): ∀fs:List (Str×V),(DO f v fs).length<=fs.length+1
 |[]=>by simp[DO]
 |(k,x)::r=>by
  have j:=KI f v r;rw[show DO f v _=(if k=f then _::r else _::DO f v r)from rfl];by_cases a:k=f
  .rw[iP a,lC,lC];lia
  .rw[iN a,lC,lC];lia
def RelO.some_of(r:RelO (some v) o): ∃u,o=some u/\RelV v u:=by
 cases o with
 |none=>exact r.elim
 |some u=>exact⟨u,rfl,r⟩
def RelO.none_of(r:RelO none o):o=none:=by
 cases o with
 |none=>rfl
 |some u=>exact r.elim
section
def Sz(b:HOk P w H h)(e:H a=some (.ins C dx fs)): ∃j,ObjM h a dx C j/\(∀f,RelO (fs.lookup f) (j f))/\PySem.Within j (fs.map (·.1))/\fs.length<=1000/\H dx=some (.own a):=by
 obtain⟨d,z,ne,ob,j,n,r,q⟩:=(b a _ e)
 exact{j,⟨ob,n,ne⟩,r,q,z,d}
end
structure Cls(K:O0)(C:Addr):Prop where
 pg:PySem.W.plainGet K C Str.empty=true
 hd:PySem.W.hasDictIn K C=true
 po:PySem.W.plainOver K C=true
 sa:PySem.W.findIn K (.ref C) "__setattr__"=some (some (.builtin "object.__setattr__"))
def Cls.get{K:O0}(c:Cls K C)(f):PySem.W.plainGet K C f=true:=c.pg
def NoAttr(K:O0)(C:Addr)(f:Str):Prop:=PySem.W.findIn K (.ref C) f=some none
theorem NoAttr.taker{K:O0}(n:NoAttr K C f):PySem.W.takerIn K C f=some none:=by unfold PySem.W.takerIn;rw[show PySem.W.findIn K _ f=some none from n];rfl
structure Meth(K:O0)(C:Addr)(m:Str)(f:Addr):Prop where
 at_:PySem.W.findIn K (.ref C) m=some (some (.ref f))
 fn:PySem.W.isFn K (.ref f)=true
 kp:PySem.W.keepIn K (.ref f)=true
section
theorem Bx(I:↑1)(e:H a=some (.ins C dx fs))(c:Cls X.K C)(n:NoAttr X.K C f)(P:fs.length<1000)(L:RelV y u)
  (h: ∀m,Inv X pins σ (yP H a (.ins C dx (DO f y fs))) m->Q () m):wpAny ↑5 A (setAttr (.ref a) f u) Q E s:=by
 refine(Sz I.hok e).elim λD k=>k.p λO r B _ v=>?_;have N:(fs.map (·.1)).length<=sizeLine:=by rw[lM,ý];lia
 refine Sy I.kIn O c.sa c.po n.taker c.hd B N λh' j M=>h _ ?_;have hd: ∃o,h'.get? dx=some o:=let ⟨o,_,_,F,_⟩:=j.ns;⟨o,F⟩;refine I.write (by rw[e];exact True.intro) (.inr v) (λb q G z=>(M.2 b G).trans z) hd ?_;refine{by rw[zH O.ne];exact v,?_,O.ne,j.obj,_,j.ns,λg=>?_,λg J=>?_}
 .have:=KI f y fs;lia
 .show RelO _ _;rw[KH];by_cases q:g=f
  .rw[iP q,iP q];exact L
  .rw[iN q,iN q];exact r g
 .by_cases q:g=f
  .rw[q];exact(IK f y fs).1
  .refine(IK f y fs).2 g (B g λz=>J ?_);show(if g=f then some u else D g)=none;rw[iN q];exact z
def Inv.made(I:↑1):Inv X pins σ (yP (yP H ↑0 (.own (↑0+1))) (↑0+1) (.ins C ↑0 []))
  {s with heap:=(s.heap.push PySem.W.emptyDict).push (PySem.W.instObj C ↑0)}:=by
 have a:(s.heap.push PySem.W.emptyDict).get? ↑0=some PySem.W.emptyDict:=á s.heap rfl;have j:=by have:=á (s.heap.push PySem.W.emptyDict) (o:=PySem.W.instObj C ↑0) rfl;rwa [Ģ]at this
 have c:(s.heap.push PySem.W.emptyDict).Ns ↑0 (λ_=>none):=(Ze _ (#[]) _ a rfl (λe m=>absurd m (by simp)) (λ_=>rfl))
 have I1:=I.laid (o:=.own (↑0+1)) (t':=s.toks) (λb u q=>hP0 _ q) (à _) {_,a};refine I1.laid (λb u q=>hP0 _ q) (le_of_eq (Ģ _ _)) ?_;have ne:↑0≠↑0+1:=å (Nat.lt_succ_self _);refine{by rw[zH ne,zM],zero_le _,ne,j,λ_=>none,(Heap.Ns1.of_empty c).at λo q=>hP0 _ q,λ_=>True.intro,λy v=>absurd rfl v}
end
def zCF(K:O0)(j o:TE)(f:Str):TS:=λD σ H=>o σ H λy m=>j σ m λx c=> ∃a C b fs,x=.ref a/\c a=some (.ins C b fs)/\Cls K C/\NoAttr K C f/\fs.length<1000/\
 D.nx σ (yP c a (.ins C b (DO f y fs)))
section
def J5(L:PE X o ta)(E:PE X value tv)(hs:swapsWith value (some (.Attribute o f pos')) pos.line X.env=pure false):PS X (.Assign [.Attribute o f pos'] value pos) (zCF X.K ta tv f):=by intro pins s σ H D I h;refine plainObj_wpAny_Assign_Attribute (xV (E pins s σ H _ I h) λu b ⟨y,j,I1,m,q⟩=>xV (L pins b σ j _ I1 q) λv P ⟨x,M,w,J,a,C,O,fs,G,F,c,n,l,A⟩=>?_) hs;subst G;obtain rfl:v=Value.ref a:=J;exact Bx w F c n l m λN B=>(ZX (σ) _ B A)
end
section
variable{H:Hp}
inductive DQ(K:O0)(H:Hp):V->ō->Prop where
 |non:DQ K H .non (.type "NoneType")
 |bl (x:Bool):DQ K H (.bl x) (.type "bool")
 |int (i:Int):DQ K H (.int i) (.type "int")
 |str (x:Str):DQ K H (.str x) (.type "str")
 |flt (x:UInt64):DQ K H (.flt x) (.type "float")
 |lst {a:Addr} {xs:List V} (e:H a=some (.lst xs)):DQ K H (.ref a) (.type "list")
 |frz {a:Addr} {o:Obj} {xs:List V} (e:H a=some (.frz o (.lst xs))):DQ K H (.ref a) (.type "list")
 |tup {a:Addr} {xs:List V} (e:H a=some (.tup xs)):DQ K H (.ref a) (.type "tuple")
 |dK {a:Addr} {kvs:List (Key×V)} (e:H a=some (.dK kvs)):DQ K H (.ref a) (.type "dict")
 |dT {a:Addr} {kvs:List (List Key×V)} (e:H a=some (.dT kvs)):DQ K H (.ref a) (.type "dict")
 |ins {a C dx:Addr} {fs:List (Str×V)} (e:H a=some (.ins C dx fs)) (cl:Cls K C) (ha:PySem.W.findIn K (.ref C) "__class__"=some (some (.builtin "object.__class__")))
   (hn:PySem.W.specialIn K (.builtin "object.__class__") "__get__"=some (some (.builtin "getset_descriptor.__get__"))) (htk:PySem.W.takesIn K (.builtin "object.__class__")=some true)
   (hm:PySem.W.mroIn K C (.type "object")=some true):DQ K H (.ref a) (.ref C)
end
structure Room(k:Nat)(A:Around):Prop where
 hd:A.handled=none
 dp:A.depth+3 * k+5<recursionLimit
 un:A.units+16 * k+200<cLine
 gd:A.guards=some []
theorem Room.mono(r:Room k A)(h:j<=k):Room j A:={r.hd,by have:=r.dp;lia,by have:=r.un;lia,r.gd}
theorem Room.deeper(r:Room (k+1) A)(env):Room k (A.deeper env):=
 {r.hd,by have:=r.dp;show A.depth+1+3 * k+5<_;lia,by have:=r.un;show A.units+3+16 * k+200<_;lia,r.gd}
theorem Room.in1(r:Room (k+1) A):Room k A.in1:=
 {r.hd,by have:=r.dp;show A.depth+3 * k+5<_;lia,by have:=r.un;show A.units+1+16 * k+200<_;lia,r.gd}
def Bz{A:Around}:(A.under (.builtin "type.__call__" {.ref C::us,kw})).units=A.units+1:=by
 first |rfl|simp[Code.cUnits]
theorem Room.make(r:Room (k+1) A)(C)(us)(kw):Room k (A.under (.builtin "type.__call__" {.ref C::us,kw})):=
 {r.hd,by have:=r.dp;rw[(show (A.under (.builtin "type.__call__" {.ref C::us,kw})).depth=A.depth+1 by
   first |rfl|simp[Code.weight])];lia,by have:=r.un;rw[Bz];lia,by unfold Around.under;dsimp only;rw[r.gd];first |rfl|simp[Code.guards,Code.isGuard,pushGuards]}
def Room.depth(r:Room k A):A.depth<recursionLimit:=by have:=r.dp;lia
def Room.units(r:Room k A):A.units+64<cLine:=by have:=r.un;lia
def zCG:TA:=λ_ H Q=>Q [] H
def Zy(a:TE)(tr:TA):TA:=λσ H Q=>a σ H λx b=>tr σ b λxs c=>Q (x::xs) c
section
variable{e:Expr}{pos:Pos}
def Ca:PA X [] zCG:=λ_ _ _ _ H Q I h=>Calls.spliced_nil (Z2 ([]) H I .nil h)
abbrev q9(X:Cx)(e:Expr)(es:List Expr):Prop:=starEach (e::es) X.env=(false,eval e X.env)::starEach es X.env
def UL(y:PE X e te)(w:PA X es t)(hs:q9 X e es:=by rfl):PA X (e::es) (Zy te t):=by intro pos pins s σ H Q I h;rw[hs];show wpAny _ _ _ _ _ s;refine Calls.spliced_cons (xV (y pins s σ H _ I h) λu b ⟨x,j,I1,q,a⟩=>?_);exact xV (w pos pins b σ j _ I1 a) λA B ⟨xs,m,c,o,v⟩=>(Z2 _ m c (.cons q o) v)
def tTup(t:TA):TE:=λσ H Q=>t σ H λxs a=>↑7<=sizeLine/\ ∀p,a p=none->Q (.ref p) (yP a p (.tup xs))
def tLst(t:TA):TE:=λσ H Q=>t σ H λxs a=>↑7<=sizeLine/\ ∀p,a p=none->Q (.ref p) (yP a p (.lst xs))
end
abbrev Sp:=List V->Hp->VK->XK->Prop
abbrev Id:=List Env->Hp->Shared->XK->VP
structure Env0(P:Ŏ)(w:World)(K:O0)(mg:G0)(base:Heap)(A:Around)(outer:List Env)(s:Ō)(H:Hp):Prop where
 frames:A.frames=some outer
 mod:Mod K mg base
 bs: ∀b o,base.get? b=some o->s.heap.get? b=some o/\H b=none
 bsz:Bsz P K base s.heap H
 funs:s.heap.FunFrames base outer
 frf: ∀b∈Lk outer,H b=none
 hok:HOk P w H s.heap
 bare:AllBare s.gens
def CE(a:List Env)(P:Ŏ)(w:World)(H:Hp)(s:Ō)(Q:VK)(u:ō)(b:Ō):Prop:=
 ∃v H',b.os=s.os/\AllBare b.gens/\Un (Lk a) [] H H' s.heap b.heap/\HOk P w H' b.heap/\RelV v u/\Q v H'
def CR(CX:Id)(a:List Env)(P:Ŏ)(w:World)(H:Hp)(s:Ō)(Q:VK)(E:XK)(r:Result)(b:Ō):Prop:=
 match r with
 |.ok (.ret u)=>CE a P w H s Q u b
 |.ok _=>False
 |.error e=>CX a H s E e b
structure FnOk(P:Ŏ)(w:World)(K:O0)(mg:G0)(base:Heap)(CX:Id)(k:Nat)(f:Addr)(fd:FuncData)(ps:D0)(sp:Sp):Prop where
 len: ∀vs H Q E,sp vs H Q E->↑9=ps.length
 run: ∀(A:Around)(outer:List Env)(s:Ō)(H:Hp)(args:Args)(us:A0)(vs:List V)(Q:VK)(E:XK),Room k A->Env0 P w K mg base A outer s H->BindsTo s fd args (ps.zip us)->Vals vs us->sp vs H Q E->
  codeAny (model P w) A (.call (.ref f) args) (CR CX outer P w H s Q E) s
def FnOk.imp{K:O0}(F:FnOk P w K mg base CX k f fd ps sp)
  (h: ∀vs H Q E,sp' vs H Q E->sp vs H Q E):FnOk P w K mg base CX k f fd ps sp':=
 {λvs H Q E q=>F.len vs H Q E (h _ _ _ _ q),λA a s H b c vs Q E u m o j hs=>F.run A a s H b c vs Q E u m o j (h _ _ _ _ hs)}
def Env0.make{K:O0}(e:Env0 P w K mg base A outer s H)(C)(us)(kw):
  Env0 P w K mg base (A.under (.builtin "type.__call__" {.ref C::us,kw})) outer s H:={by first |exact e.frames|(simpa [Around.under,Code.envs,Code.isFrame,pushEnvs]using e.frames),e.mod,e.bs,e.bsz,e.funs,e.frf,e.hok,e.bare}
def Env0.in1{K:O0}(e:Env0 P w K mg base A outer s H):
  Env0 P w K mg base A.in1 outer s H:=⟨e.frames,e.mod,e.bs,e.bsz,e.funs,e.frf,e.hok,e.bare⟩
section
def Inv.env0(I:↑1):Env0 X.prog X.w X.K X.mg X.base X.A X.stack s H:=
 ⟨I.ok.frames,I.ok.mod,I.bs,I.bsz,I.stack,I.stkFree,I.hok,I.bare⟩
def Inv.after(I:↑1)(h:CE X.stack X.prog X.w H s Q u s'):EP X pins σ Q u s':=by refine h.k λv H' k=>k.e λm a un j r q=>?_;obtain⟨o,g,d,t,c⟩:=s';obtain rfl:c=s.os:=m;exact Z2 v H' (I.call un j a (λb z=>absurd z (by simp))) r q
end
def zCH(sp:Sp)(a:List V)(E:XK)(t:TA):TE:=λσ H Q=>t σ H λvs b=>sp (vs++a) b Q E
def Zz(C:Addr)(sp:Sp)(b:List V)(E:XK)(t:TA):TE:=λσ H Q=>t σ H λvs c=> ∀x a,c x=none->c a=none->a≠x->
 sp (.ref x::(vs++b)) (yP (yP c a (.own x)) x (.ins C a [])) (λv j=>v=.non/\Q (.ref x) j) E
def Binds(K:O0)(a:FuncData)(ps:D0)(ds:A0):Prop:=
 ∀(s:Ō)(us:A0),K.In s.heap->(us++ds).length=ps.length->BindsTo s a {us,[]} (ps.zip (us++ds))
def Binds.all{K:O0}(h: ∀us:List ō,us.length=ps.length->bindArgs fd {us,[]}=pure (ps.zip us)):Binds K fd ps []:=λs us _ a=>by rw[aN]at a ⊢;exact .of_eq (h us a)
def NH(CX:Id)(X:Cx)(E:XK):Prop:= ∀(pins:L0)(σ:St)(H:Hp)(s:Ō)(e:ō)(a:Ō),Inv X pins σ H s->CX X.stack H s E e a->X.xe e a
section
variable{f C:Addr}{p pos:Pos}{e:Expr}
def Me(F:FnOk X.prog X.w X.K X.mg X.base CX k f fd ps sp)(m:Room k X.A)(j:Binds X.K fd ps ds)(hd:Vals dvs ds)(o:NH CX X E)
  (I:↑1) (r:Vals vs us) (h:sp (vs++dvs) H Q E):wpAny ↑5 X.A (call (.ref f) us) (EP X pins σ Q) X.xe s:=by
 have b:Vals _ _:=r.append hd;refine wpAny_call (codeAny_mono (F.run X.A X.stack s H {us,[]} _ _ Q E m I.env0 (j s us I.kIn (by rw[<-b.length];exact F.len _ _ _ _ h)) b h) λr c a=>?_)
 cases r with
 |error e=>exact o pins σ H s e c I a
 |ok fl=>
  cases fl with
  |ret u=>exact I.after a
  |next=>exact False.elim a
  |brk=>exact False.elim a
  |cont=>exact False.elim a
abbrev Q2(X:Cx)(p:Pos)(es:List Expr):Prop:=(backTo p (starEach es X.env)).any (·.1)=false
def Tb(F:FnOk X.prog X.w X.K X.mg X.base CX k f fd ps sp)(o:Room k X.A)(j:Gl X x)(b:X.mg x=some (.ref f))(m:PySem.W.keepIn X.K (.ref f)=true)(a:Binds X.K fd ps ds)(hd:Vals dvs ds)(c:NH CX X E)
  (ha:PA X (e::es) t) (hdb:(x==("__debug__"))=false:=by decide) (he:q9 X e es:=by rfl) (hpl:Q2 X pos es:=by rfl):
  PE X (.Call (.Name x p) (e::es) [] pos) (zCH sp dvs E t):=by
 rw[22];refine Ņ (MA I j b ?_ hdb);refine PySem.W.callWith_K I.ok.mod.kin m (xV (ha pos pins s σ H _ I h) λy u ⟨vs,v,I1,r,q⟩=>{I1.kIn,?_}) he hpl;exact Me F o a hd c I1 r q
structure Mk(K:O0)(C f:Addr):Prop where
 makes:PySem.W.makesIn K C=true
 init:PySem.W.findIn K (.ref C) "__init__"=some (some (.ref f))
 fn:PySem.W.isFn K (.ref f)=true
 kp:PySem.W.keepIn K (.ref C)=true
def Mf(M:Mk X.K C f)(F:FnOk X.prog X.w X.K X.mg X.base CX k f fd ps sp)(G:Room (k+1) X.A)(y:Binds X.K fd ps ds)(hd:Vals dvs ds)
  (hx:NH CX X E) (I:↑1) (r:Vals vs us)
  (h: ∀x j,H x=none->H j=none->j≠x->sp (.ref x::(vs++dvs)) (yP (yP H j (.own x)) x (.ins C j [])) (λv B=>v=.non/\Q (.ref x) B) E):
  wpAny ↑5 X.A (call (.ref C) us) (EP X pins σ Q) X.xe s:=by
 have c:=h _ ↑0 (I.hok.fresh (le_succ _)) (I.hok.fresh (à _)) (å (Nat.lt_succ_self _));have b:=Inv.made (C:=C) I;have m:Vals (V.ref (↑0+1)::_) _:=.cons rfl (r.append hd);have J:=by have e:=m.length;rw[F.len _ _ _ _ c]at e;exact e.symm
 refine wpAny_call (Md I.kIn M.makes M.init (ĺ.mp M.fn) (codeAny_mono (F.run _ X.stack _ _ {_,[]} _ _ _ E (G.make C us [])
  (b.env0.make C us []) (y _ _ b.kIn J) m c) λr o a=>?_))
 cases r with
 |error e=>exact hx pins σ _ _ e o b a
 |ok fl=>
  cases fl with
  |ret u=>
   refine(b.after a).l λv H' D N q L=>?_;subst q;exact{N,(Z2 (V.ref _) H' D rfl L)}
  |next=>exact False.elim a
  |brk=>exact False.elim a
  |cont=>exact False.elim a
def Tc(M:Mk X.K C f)(F:FnOk X.prog X.w X.K X.mg X.base CX k f fd ps sp)(m:Room (k+1) X.A)(j:Gl X x)(b:X.mg x=some (.ref C))(a:Binds X.K fd ps ds)(hd:Vals dvs ds)(c:NH CX X E)
  (ha:PA X (e::es) t) (hdb:(x==("__debug__"))=false:=by decide) (he:q9 X e es:=by rfl) (hpl:Q2 X pos es:=by rfl):
  PE X (.Call (.Name x p) (e::es) [] pos) (Zz C sp dvs E t):=by
 rw[22];refine Ņ (MA I j b ?_ hdb);refine PySem.W.callWith_K I.ok.mod.kin M.kp (xV (ha pos pins s σ H _ I h) λv o ⟨vs,u,I1,r,q⟩=>{I1.kIn,?_}) he hpl;exact Mf M F m a hd c I1 r q
end
structure FnScope(N P:D0)(sc:Scope):Prop where
 kind:sc.kind=.function
 co:sc.isCoroutine=false
 gen:sc.isGenerator=false
 nd:N.Nodup
 pre:N.take P.length=P
 par: ∀x∈P,sc.names.lookup x=some .local\/sc.names.lookup x=some .cell
 nofree: ∀y∈sc.names,y.2≠.free
def fsK{N:D0}{j:Scope}(h:N.Nodup/\N.take P.length=P/\(∀x∈P,j.names.lookup x=some .local\/j.names.lookup x=some .cell)/\∀y∈j.names,y.2≠.free)(a:j.kind=.function:=by rfl)(b:j.isCoroutine=false:=by rfl)(c:j.isGenerator=false:=by rfl):FnScope N P j:={a,b,c,h.1,h.2.1,h.2.2.1,h.2.2.2}
theorem RZ{a:Str->Option NameKind}: ∀{binds}{m},(∀v,(x,v)∉binds)->bindL a binds m x=m x
 |[],_,_=>rfl
 |(n,v)::r,m,h=>by
  unfold bindL;rw[RZ λw hw=>h w (mO _ hw)];split
  .have:x≠n:=by rintro rfl;exact h v mF0
   simp[this]
  .rfl
theorem SC{a:Str->Option NameKind}: ∀{binds}{m},(∀v,(x,v)∉binds)->bindC a binds m x=m x
 |[],_,_=>rfl
 |(n,v)::r,m,h=>by
  unfold bindC;rw[SC λw hw=>h w (mO _ hw)];split
  .rfl
  .have:x≠n:=by rintro rfl;exact h v mF0
   simp[this]
theorem SD{a:Str->Option NameKind}: ∀{P:D0}{vs}{i:Nat}{m},P.Nodup->P[i]? =some x->vs[i]? =some v->a x=some .local->
  bindL a (P.zip vs) m x=some v
 |[],_,_,_,_,h,_,_=>by simp at h
 |_::_,[],_,_,_,_,h,_=>by simp at h
 |p::P,w::vs,0,m,nd,h1,h2,hk=>by simp at h1 h2;subst h1;subst h2;show bindL a (_::P.zip vs) m p=_;unfold bindL;rw[RZ λv j=>(nodup_cons.mp nd).1 (of_mem_zip j).1,iP hk];simp
 |p::P,w::vs,i+1,m,nd,h1,h2,hk=>by show bindL a _ m x=_;unfold bindL;exact SD (nodup_cons.mp nd).2 (by simpa using h1) (by simpa using h2) hk
theorem SE{a:Str->Option NameKind}: ∀{P:D0}{vs}{i:Nat}{m},P.Nodup->P[i]? =some x->vs[i]? =some v->a x≠some .local->
  bindC a (P.zip vs) m x=some v
 |[],_,_,_,_,h,_,_=>by simp at h
 |_::_,[],_,_,_,_,h,_=>by simp at h
 |p::P,w::vs,0,m,nd,h1,h2,hk=>by simp at h1 h2;subst h1;subst h2;show bindC a (_::P.zip vs) m p=_;unfold bindC;rw[SC λv j=>(nodup_cons.mp nd).1 (of_mem_zip j).1,iN hk];simp
 |p::P,w::vs,i+1,m,nd,h1,h2,hk=>by show bindC a _ m x=_;unfold bindC;exact SE (nodup_cons.mp nd).2 (by simpa using h1) (by simpa using h2) hk
noncomputable def start(N:D0)(vs:List V):St:=vs.map some++List.replicate (N.length - ↑9) none
noncomputable def UM(CX:Id)(P:Ŏ)(w:World)(K:O0)(mg:G0)(base:Heap)(N:D0)(qual:Str)(scope:Scope)(f:Addr)(cd:ō)(A:Around)(outer:List Env)(s:Ō)(H:Hp)(E:XK):Cx where
 prog:=P
 w:=w
 K:=K
 mg:=mg
 base:=base
 A:=A.deeper (envOfC qual scope ↑0 f cd)
 N:=N
 s₀:=s
 H₀:=H
 env:=envOfC qual scope ↑0 f cd
 outer:=outer
 stack:=envOfC qual scope ↑0 f cd::outer
 ex:=[]
 calm:=true
 fn:=λ_=>true
 pn:=[]
 xe:=λe s'=>wpAny (model P w) (A.deeper (envOfC qual scope ↑0 f cd)) (leaving (envOfC qual scope ↑0 f cd) e) (λ_ s''=>CX outer H s E e s'') (λe' s''=>CX outer H s E e' s'') s'
def YM{a:Scope}(h:a.names.lookup x=some .cell): ∃c,(cellsFrom n a.names []).lookup x=some c:=by exact ê.mp (PySem.W.cellsFrom_some a.names n [] (.inl h))
theorem Ie{K:O0}
  (S:FnScope N ps scope) (hd:A.handled=none) (e0:Env0 P w K mg base A outer s H) (hl:↑9=ps.length) (r:Vals vs us)
  (x:InCallC s ↑0 (bindL (envOfC qual scope ↑0 f cd).kindOf (ps.zip us) λ_=>none) (cellsFrom (↑0+1) scope.names []) (bindC (envOfC qual scope ↑0 f cd).kindOf (ps.zip us) λ_=>none) s1):
  Inv (UM CX P w K mg base N qual scope f cd A outer s H E) [] (start N vs) H s1:=by
 have J:=by have:=congrArg List.length S.pre;rw[lT]at this;omega
 refine x.done.d λD O Q G=>?_;subst Q;have o: ∀b:Addr,b∉(UM CX P w K mg base N qual scope f cd A outer s H E).ex:=λb z=>absurd (show b∈([]:B9)from z) (by simp)
 refine{{e0.mod,S.kind,rfl,rfl,à _,λy z c D j=>?_,λy m=>?_,λy c _ h=>?_,λ_=>hd,Around.frames_deeper e0.frames,.inr ⟨rfl,rfl⟩,λb z=>absurd z (o b),e0.bs,e0.bsz,λb _ _=>o b,λb z=>absurd z (o b),e0.funs,e0.frf},
  rfl,e0.bare,Un.kept G,(Z3 _ x.toInCall.ns (λi y v D j M=>?_)),λy c h=>{_,x.cell y c h},e0.hok.fresh (à _),λy c h=>?_,λp B=>absurd (show p∈([]:List _)from B) (by simp),e0.hok.kept G,?_}
 .exact name_of_addr x.apart (PySem.mem_of_lookup D) (PySem.mem_of_lookup j)
 .have m:=m;rcases m with m|m
  .exact YM m
  .exact absurd rfl (S.nofree _ (PySem.mem_of_lookup m))
 .exact le_of_lt (x.above y c (PySem.mem_of_lookup h))
 .have hi:i<vs.length:=by
   unfold start at j;by_cases hi:i<↑9
   .exact hi
   .rw[æ (by simpa using hi)]at j;rw[List.getElem?_replicate]at j;split at j<;>cases j
  have I:vs[i]? =some v:=by
   unfold start at j;rw[ã (by simpa using hi),ë]at j
   cases e:vs[i]? with
   |none=>rw[e]at j;cases j
   |some a=>rw[e]at j;cases j;rfl
  refine(r.get I).a λu F L=>?_;have B:ps[i]? =some y:=by rw[<-S.pre,List.getElem?_take_of_lt (by omega)];exact D
  have C:ps.Nodup:=by rw[<-S.pre];exact S.nd.sublist (List.take_sublist _ _)
  refine Z3 u L ?_;rcases S.par y (ò B)with k|k
  .exact .inl {k,SD C B F k}
  .obtain⟨c,e⟩:=YM k;refine .inr {.inl k,c,e,?_};have q:=x.cell y c e;rw[SE C B F (by show scope.names.lookup y≠_;rw[k];decide)]at q;exact q
 .exact .inl (e0.hok.fresh (le_of_lt (x.above y c (PySem.mem_of_lookup h))))
 .unfold start;show _=N.length;rw[lA,lM,Đ]
  lia
def zCI{K:O0}{kV:ō}
     (lk:K.lookup f=some {oc,od,.func (PySem.W.fnOf name qual params body scope dV kV doc pm an cdv ct),osl}) (hcd:PySem.W.codeIn K cdv qual=true) (S:FnScope N ps scope)
  (len: ∀vs H Q E,sp vs H Q E->↑9=ps.length)
  (hbody: ∀ A  j  s  H  vs  Q  E ,Room k (A.deeper (envOfC qual scope ↑0 f cdv))->sp vs H Q E->
   ∃t,PSs (UM CX P w K mg base N qual scope f cdv A j s H E) body t/\t {nx:=λ_ H'=>Q .non H',rt:=Q} (start N vs) H):
  FnOk P w K mg base CX (k+1) f (PySem.W.fnOf name qual params body scope dV kV doc pm an cdv ct) ps sp:=by
 refine{len,λA j s H I Z vs Q E D m O r B=>?_};have KX:=m.mod.kin.keeps λb o e=>(m.bs b o e).1
 have c: ∀y∈ps.zip Z,scope.names.lookup y.1=some .local\/(scope.names.lookup y.1=some .cell/\((cellsFrom (↑0+1) scope.names []).lookup y.1).isSome=true):=λ⟨n,v⟩ X=>by
  rcases S.par n (of_mem_zip X).1 with q|q
  .exact .inl q
  .exact .inr {q,PySem.W.cellsFrom_some _ _ _ (.inl q)}
 refine codeAny_call_function D.depth (KX _ _ lk) rfl S.co S.gen rfl (PySem.W.codeRec_of KX hcd) (O _ _ _ _ ?_);refine wpAny_newFunctionEnv_cells S.kind c λY M L x=>?_;subst M;refine{(m.mod.nolimit.keeps λb o e=>(m.bs b o e).1).keeps x.toInCall.keep,codeAny_func ?_};refine(hbody A j s H vs Q E (D.deeper _) B).a λt T U=>?_;refine þ (T [] L _ H _ (Ie S D.hd m (len _ _ _ _ B) r x) U) (λfl G hs=>?_) λe G hs=>hs
 have C: ∀{a:St}{H':Hp}{v:V}{u:ō},Inv (UM CX P w K mg base N qual scope f cdv A j s H E) [] a H' G->RelV v u->Q v H'->CE j P w H s Q u G:=
  λ{a H' v u} J F q=>(Y6 v H' ⟨J.os,J.bare,J.base,J.hok,F,q⟩)
 cases fl with
 |ret u=>
  refine hs.h λv a H' a0=>a0.f λJ F q=>?_;exact C J F q
 |next=>
  refine hs.d λa H' J q=>?_;exact C (v:=V.non) J rfl q
 |brk=>
  refine hs.d λ_ _ _ q=>?_;exact False.elim q
 |cont=>
  refine hs.d λ_ _ _ q=>?_;exact False.elim q
section
variable{p pos:Pos}{id:String}
def tCB(r:List V->Hp->VK->Prop)(t:TA):TE:=λσ H Q=>t σ H λvs a=>r vs a Q
def SF(j:CallR X (.type T) r)(v:Gl X x)(q:X.mg x=none)(y:bootBuiltins x=some (.type T))(A:PA X (e::es) t)(m:x≠"__name__":=by decide)(a:(x==("__debug__"))=false:=by decide)
  (he:q9 X e es:=by rfl) (hpl:Q2 X pos es:=by rfl):PE X (.Call (.Name x p) (e::es) [] pos) (tCB r t):=by
 rw[22];refine Ņ (pT I v q y ?_ m a);exact ĉ (xV (A pos pins s σ H _ I h) λw c ⟨vs,o,I1,u,b⟩=>j pins c σ o vs w Q I1 u b) he hpl
end
end L2
namespace HT
open PySem PyProof.Rows
section
def cat_tup(G:IsTup s.heap t vs.toArray)(D:IsTup s.heap b ws.toArray)(B:vs≠[])
  (h1:ws=[]->Q (.ref t) s) (h2:ws≠[]->Q (.ref ↑0) {s with heap:=s.heap.push {cls:=.type "tuple",data:=.seq (vs++ws).toArray}})
  (hsz:↑9+ws.length<=sizeLine):wpAny ↑6 A (binaryOp .Add (.ref t) (.ref b)) Q E s:=by
 obtain⟨⟨cls,y,data,sl⟩,m,C,n,hd⟩:=id G;obtain⟨⟨u,j,_,c⟩,a,q,v,o⟩:=id D;subst C hd q o;have e:vs.toArray++ws.toArray=(vs++ws).toArray:=by simp
 by_cases hw:ws=[]
 .exact concat_meets {_,m,rfl} {_,a,rfl} noFill_tuple_add seq_tuple_add PySem.F.slot_tuple_add PySem.F.entry_tuple_add (PySem.F.args_tuple_add_2 _ _)
   (tuple_addW1 t b vs.toArray ws.toArray n v y j sl c (by simpa using B) (by simp[hw])) {m,a,h1 hw}
 .refine concat_meets {_,m,rfl} {_,a,rfl} noFill_tuple_add seq_tuple_add PySem.F.slot_tuple_add PySem.F.entry_tuple_add (PySem.F.args_tuple_add_2 _ _)
   (tuple_addW2 t b vs.toArray ws.toArray n v y j sl c (by simpa using B) (by simpa using hw) (by rw[sA];exact hsz)) {m,a,?_}
  rw[e];exact h2 hw
noncomputable def sIx(n d:Nat):Option Int->Nat
 |none=>d
 |some v=>if v<0 then(v+(n:Int)).toNat else min v.toNat n
theorem sIx_nat(n d k:Nat):sIx n d (some  k )=min k n:=by show(if(k:Int)<0 then((k:Int)+(n:Int)).toNat else min (k:Int).toNat n)=min k n;rw[iN #[0],ą]
theorem sIx_le(n d)(hd:d<=n)(o):sIx n d o<=n:=by
 cases o with
 |none=>exact hd
 |some v=>
  show(if v<0 then(v+_).toNat else min v.toNat n)<=n;by_cases a:v<0
  .rw[iP a];lia
  .rw[iN a];exact Nat.min_le_right _ _
theorem Eu(v)(n d:Nat):(if v<0 then max (v+(n:Int)) 0 else min v  n )=((sIx n d (some v):Nat)):=by
 show _=(((if v<0 then(v+_).toNat else min v.toNat n):Nat):Int)
 by_cases a:v<0
 .simp only[iP a];lia
 .simp only[iN a];lia
theorem Cc(i j:Nat):Builtin.Slice.slicePlaces  i   j  1=j - i:=by
 unfold Builtin.Slice.slicePlaces;have a:(1:Int)>0:=by lia
 split<;>lia
def NI(p:IsPart v o)(h:Q o s):wpAny ↑6 A (Builtin.Slice.slicePartIndex v) Q E s:=by
 cases p with
 |none=>exact slicePart_none h
 |int i t=>exact slicePart_int h
def sliceApplied_gen{lo:M0}{Q:Int×Int×Nat->Ō->Prop}(hs:s.heap.IsSliceOf sl vl vu .none)(j:IsPart vl lo)(m:IsPart vu hi)
  (h:Q (((sIx n 0 lo:Nat)),1,sIx n n hi - sIx n 0 lo) s):wpAny ↑6 A (Builtin.Slice.sliceApplied (.ref sl) (pure  n )) Q E s:=by
 refine(id hs).c λo a c b=>?_;refine wB (wB (ï a b rfl (wB (ï a b rfl (wB (ï a b rfl (wP ?_)))))));refine wB (slicePart_none ?_);show wpAny _ _ _ _ _ s;refine wB (NI j (wB (NI m (wB (wP ?_)))));show wpAny _ _ (match Builtin.Slice.sliceAdjust lo hi 1 _ with |(lo,hi)=>pure (lo,_,Builtin.Slice.slicePlaces lo hi 1)) _ _ s;rw[(show Builtin.Slice.sliceAdjust lo hi 1  n =(((sIx n 0 lo):Int),((sIx n n hi):Int)) by
   have q: ¬((1:Int)<0):=by lia
   unfold Builtin.Slice.sliceAdjust;refine Prod.ext ?_ ?_
   .cases lo with
    |none=>rfl
    |some v=>exact Eu v n 0
   .cases hi with
    |none=>rfl
    |some v=>exact Eu v n n)];show wpAny _ _ (pure _) _ _ s;rw[Cc];exact wP h
theorem Mh(xs:B0)(i k:Nat):((List.range k).filterMap λ(m:Nat)=>xs[( i +(m:Int) * 1).toNat]?).toArray=((xs.toList.drop i).take k).toArray:=by
 have e:(λ(m:Nat)=>xs[((i:Int)+(m:Int) * 1).toNat]?)=λm=>xs[i+m]? :=by
  funext m;have:((i:Int)+(m:Int) * 1).toNat=i+m:=by lia
  rw[this]
 rw[e];have:=pick_run xs i k;rw[List.filterMap_map]at this;have a:((λx=>xs[x]?)∘λx=>i+x)=λm=>xs[i+m]? :=rfl;rw[a]at this;rw[this]
def getItem_tuple_cut{lo:M0}(b:IsTup s.heap t items)(hs:s.heap.IsSliceOf sl vl vu .none)(v:IsPart vl lo)(B:IsPart vu hi)
  (hw: ¬(sIx items.size 0 lo=0/\sIx items.size items.size hi=items.size))
  (h:Q (.ref ↑0) {s with heap:=s.heap.push {cls:=.type "tuple",data:=.seq ((items.toList.drop (sIx items.size 0 lo)).take (sIx items.size items.size hi - sIx items.size 0 lo)).toArray}})
  (hsz:items.size<=sizeLine):wpAny ↑6 A (getItem (.ref t) (.ref sl)) Q E s:=by
 have a:sizeOk (.seq ((items.toList.drop (sIx items.size 0 lo)).take (sIx items.size items.size hi - sIx items.size 0 lo)).toArray):=by show((items.toList.drop _).take _).toArray.size<=sizeLine;rw[sA,lT,Ĩ,î];omega
 refine(id hs).c λu m j y=>?_;have o:s.TypeIs (.ref sl) "slice":=(Z3 u m j)
 unfold getItem
 try with_reducible refine ð ?_
 first |refine wB _|skip
 refine wB (wpAny_sequenceKey b.typeIs ↑15 ?_)
 refine wB (í b.typeIs Ī
  (é Ī b.typeIs entry_tuple_getitem ?_ (args_tuple_getitem _ _)))
 show wpAny _ _ (Builtin.Tuple.tupleItemsOf _ >>= _) _ _ s;refine wB (tupleItemsOf_ b ?_);refine wB (Č o ?_);refine wB (sliceApplied_gen hs v B ?_);have c: ¬((((sIx items.size 0 lo:Nat):Int)==0&&(1:Int)==1&&(sIx items.size items.size hi - sIx items.size 0 lo)==items.size)=true):=by intro q;rw[aE,aE]at q;have C:(_:Int)=0:=eq_of_beq q.1.1;have D:=eq_of_beq q.2;exact hw {by omega,by omega}
 show wpAny _ _ (if _=true then _ else _) _ _ s;rw[iN c,Mh]
 first
  |exact wB (Ā (wP (Z3 _ rfl (wP h))) a)
  |exact wB _
  |exact wB _
  |exact wB _
end
end HT
namespace L2
open PySem PySem.Spec PyProof.Rows
abbrev TO:=St->Hp->(Option Int->Hp->Prop)->Prop
def PO(X:Cx)(e:Option Expr)(t:TO):Prop:=
 ∀(pins:L0)(s:Ō)(σ:St)(H:Hp)(Q:Option Int->Hp->Prop),Inv X pins σ H s->t σ H Q->
  wpAny ↑5 X.A (evalPart e X.env) (λu a=> ∃o H',Inv X pins σ H' a/\IsPart u o/\Q o H') X.xe s
def Td:TO:=λ_ H Q=>Q none H
def zCJ(t:TE):TO:=λσ H Q=>t σ H λx a=> ∃i,x=.int i/\Q (some i) a
section
variable{lo hi:Option Expr}{p2:Pos}
def Tf(h:PE X e te):PO X (some e) (zCJ te):=by intro pins s σ H Q I hw;refine xV (h pins s σ H _ I hw) λu j ⟨x,b,I1,c,a⟩=>?_;refine a.a λi k q=>?_;subst k;obtain⟨t,rfl⟩:=c;exact Z2 _ b I1 (.int i t) q
def SlR(X:Cx)(r:V->Option Int->Option Int->Hp->VK->Prop):Prop:=
 ∀(pins:L0)(s:Ō)(σ:St)(H:Hp)(x:V)(v b a:ō)(lo hi:M0)(sl:Addr)(Q:VK),Inv X pins σ H s->RelV x v->s.heap.IsSliceOf sl b a .none->IsPart b lo->IsPart a hi->r x lo hi H Q->
  ∃T id,typeLookup (.type T) "__getitem__"=pure (some (.builtin id))/\s.TypeIs v T/\wpAny ↑5 X.A (getItem v (.ref sl)) (EP X pins σ Q) X.xe s
def SlR.or(h:SlR X r)(h':SlR X r'):SlR X (λx lo hi H Q=>r x lo hi H Q\/r' x lo hi H Q):=by
 intro pins s σ H x v a j lo hi sl Q I m hs b c q;rcases q with q|q
 .exact h pins s σ H x v a j lo hi sl Q I m hs b c q
 .exact h' pins s σ H x v a j lo hi sl Q I m hs b c q
def tSl(r:V->Option Int->Option Int->Hp->VK->Prop)(o:TE)(b a:TO):TE:=λσ H Q=>o σ H λx j=>b σ j λl m=>a σ m λu c=>r x l u c Q
def Mi(D:SlR X r)(w:PE X e te)(S:PO X lo tl)(P:PO X hi th):PE X (.Subscript e (.Slice lo hi none p2) pos) (tSl r te tl th):=by rw[22];refine Subscript_ (xV (w pins s σ H _ I h) λv o ⟨x,y,I1,M,m⟩=>?_);refine wpAny_Slice (xV (S pins o σ y _ I1 m) λc U ⟨l,B,G,J,N⟩=>xV (P pins U σ B _ G N) λj a ⟨u,F,O,L,W⟩=>?_);refine wP ?_;refine(D pins {a with heap:=a.heap.push {cls:=.type "slice",data:=.fields #[c,j,.none]}} σ F x v c j l u a.heap.objs.size Q (O.kept λb ob q=>hP0 _ q) M (Heap.IsSliceOf.new ..) J L W).b λT id K E C=>?_;show wpAny _ X.A _ _ X.xe {a with heap:=a.heap.push {cls:=.type "slice",data:=.fields #[c,j,.none]}};exact tail_any E K C (by with_unfolding_all rfl)
def Ig(xs:List V)(lo hi:M0):List V:=(xs.drop (HT.sIx ↑7 0 lo)).take (HT.sIx ↑7 ↑7 hi - HT.sIx ↑7 0 lo)
theorem KL(xs)(lo hi):(Ig xs lo hi).length<=xs.length:=by
 unfold Ig;rw[lT,Ĩ]
 lia
def rSlT(K:O0):V->Option Int->Option Int->Hp->VK->Prop:=λx lo hi H Q=> ∃a xs,x=.ref a/\SqT K H a xs/\
 ¬(HT.sIx ↑7 0 lo=0/\HT.sIx ↑7 ↑7 hi=↑7)/\ ∀p,H p=none->Q (.ref p) (yP H p (.tup (Ig xs lo hi)))
def J8:SlR X (rSlT X.K):=by
 intro pins s σ H x v B C lo hi sl Q I A hs u w h;refine h.l λa xs k y hw q=>?_;subst k;subst A;refine(I.tuple y).c λj r o m=>?_;have c:j.toArray.size=xs.length:=by rw[sA];exact r.length.symm
 refine Z2 _ _ PyProof.Rows.slot_tuple_getitem.lookup o.typeIs ?_;refine HT.getItem_tuple_cut o hs u w (by refine qq c ?_;exact hw) ?_ (by rw[c];exact m);refine qq c ?_;refine Z2 (.ref ↑0) _ (I.laid (λb ob q=>hP0 _ q) (à _) ?_) rfl (q _ (I.hok.fresh (à _)));exact{ó (KL xs lo hi) m,_,(r.drop _).take _,IsTup.new _ _}
def zCK(K:O0):R2:=λx y H Q=> ∃a b xs ys,x=.ref a/\y=.ref b/\SqT K H a xs/\SqT K H b ys/\xs≠[]/\↑7+ys.length<=sizeLine/\
 (ys=[]->Q (.ref a) H)/\(ys≠[]-> ∀p,H p=none->Q (.ref p) (yP H p (.tup (xs++ys))))
def Vals.nil_iff(r:Vals xs us):us=[]↔xs=[]:=by
 cases r with
 |nil=>simp
 |cons _ _=>simp
def Tg:OpR X (binaryOp .Add) (zCK X.K):=by intro pins s σ H x y v u Q I G C h;refine h.j λa b xs ys k=>k.t λL M J B E o A F=>?_;subst L;subst M;subst G;subst C;refine(I.tuple J).c λD j p1 _=>?_;refine(I.tuple B).c λm c p2 _=>?_;refine HT.cat_tup p1 p2 (λz=>E (j.nil_iff.mp z)) (λz=>(Z2 (.ref a) H I rfl (A (c.nil_iff.mp z)))) (λz=>?_) (by refine qq j.length.symm (qq c.length.symm ?_);exact o);refine Z2 (.ref ↑0) _ (I.laid (λb ob q=>hP0 _ q) (à _) ?_) rfl (F (λw=>z (c.nil_iff.mpr w)) _ (I.hok.fresh (à _)));exact{by refine qq lA ?_;exact o,_,j.append c,IsTup.new _ _}
end
noncomputable def QR(n:Nat)(i:Int):Option Nat:=if 0<=i then(if i<n then some i.toNat else none)else if -(n:Int)<=i then some (i+n).toNat else none
def DV{α:Type}(xs:List α)(i:Int):Option α:=(QR ↑7 i).bind λj=>xs[j]?
theorem UN(h:QR n i=some j):seqIndex? i n=some j/\j<n/\ - n <=i/\i<n:=by
 unfold QR at h;by_cases b:0<=i
 .rw[iP b]at h;by_cases a:i<n
  .rw[iP a]at h;exact{by rw[seqIndex_of b a,(è h)],by lia,by lia,a}
  .rw[iN a]at h;cases h
 .rw[iN b]at h;by_cases a: -(n:Int)<=i
  .rw[iP a]at h;exact{by rw[seqIndex_neg #[0] a,(è h)],by lia,a,by lia}
  .rw[iN a]at h;cases h
def UO(h:DV xs i=some v): ∃j,seqIndex? i ↑7=some j/\xs[j]? =some v/\j<↑7/\ - ↑7 <=i/\i<xs.length:=by
 unfold DV at h
 cases e:QR ↑7 i with
 |none=>rw[e]at h;cases h
 |some j=>
  rw[e]at h;refine(UN e).g λc m b a=>?_;exact⟨j,c,h,m,b,a⟩
theorem atI_nat{j:Nat}(h:xs[j]? =some v):DV xs  j =some v:=by
 have a:=(gS.mp h).1;have e:QR ↑7 (j:Int)=some j:=by unfold QR;rw[iP #[0],iP #[0]];simp
 unfold DV;rw[e];exact h
def MB(b:Expr):Prop:= ∀o i,subscripted b false o i=operate [o,i] (getItem o i)
def IxR(X:Cx)(r:R2):Prop:=
 ∀(b a:Expr)(pins:L0)(s:Ō)(σ:St)(H:Hp)(x y:V)(v u:ō)(Q:VK),Inv X pins σ H s->RelV x v->RelV y u->r x y H Q->
  subscripted a false v u=operate [v,u] (getItem v u)->wpAny ↑5 X.A (subscriptTail b a v u) (EP X pins σ Q) X.xe s
def Th(X:Cx)(id:String)(r:V->List V->Hp->VK->Prop):Prop:=
 ∀(pins:L0)(s:Ō)(σ:St)(H:Hp)(x:V)(xs:List V)(v:ō)(us:A0)(Q:VK),Inv X pins σ H s->RelV x v->Vals xs us->r x xs H Q->
  wpAny ↑5 X.A (call (.builtin id) (v::us)) (EP X pins σ Q) X.xe s
section
variable{a b:Expr}
def IxR.or(h:IxR X r)(h':IxR X r'):IxR X (λx y H Q=>r x y H Q\/r' x y H Q):=by
 intro a b pins s σ H x y v u Q I j c q hs;rcases q with q|q
 .exact h a b pins s σ H x y v u Q I j c q hs
 .exact h' a b pins s σ H x y v u Q I j c q hs
def zCM(K:O0):R2:=λx y H Q=> ∃p xs i v,x=.ref p/\y=.int i/\SqL K H p xs/\DV xs i=some v/\Q v H
def zCN(K:O0):R2:=λx y H Q=> ∃p xs i v,x=.ref p/\y=.int i/\SqT K H p xs/\DV xs i=some v/\Q v H
def zCO:R2:=λx y H Q=> ∃z i c,x=.str z/\y=.int i/\z.length<=sizeLine/\DV z.cps.toList i=some c/\Q (.str {#[c]}) H
theorem Ti:IxR X (zCM X.K):=by
 intro o C pins s σ H x y v u Q I O G h hs;refine h.o λp xs i z V W M F q=>?_;subst V;subst W;cases O;obtain⟨t,rfl⟩:=G;refine(I.list M).c λc r m U=>?_;refine(UO F).elim λj k=>k.p λb N T J L=>?_;refine(r.get N).a λw D B=>?_;have P:=r.length;have S:=ER;have a:EP X pins σ Q w s:=(Z2 z H I B q)
 by_cases E:0<=i
 .have A:=by rw[seqIndex_of E L]at b;exact è b
  exact item_listR m.isList E #[0] (by rw[A];simpa using D) a hs
 .have A:(i+(c.toArray.size:Int)).toNat=j:=by rw[seqIndex_neg #[0] J]at b;rw[sA, <-P];exact è b
  exact subscriptTail_builtinR m.isList.typeIs slot_list_getitem.lookup
   (wpAny_getItem_list_neg m.isList #[0] (by rw[sA]<;>lia) #[0] (by rw[A];simpa using D) ⟨rfl,a⟩) hs
theorem ix_tup:IxR X (zCN X.K):=by
 intro a c pins s σ H x y v u Q I G B h hs;refine h.o λp xs i z P T D o q=>?_;subst P;subst T;subst G;obtain⟨t,rfl⟩:=B;refine(I.tuple D).c λA r m O=>?_;refine(UO o).elim λj k=>k.p λE F N L M=>?_;refine(r.get F).a λw C b=>?_;have J:=ER
 exact subscriptTail_builtinR m.typeIs slot_tuple_getitem.lookup
  (getItem_tuple m #[0] #[0] (by refine qq sA (qq (((r.length)).symm) ?_);exact E) (by simpa using C) {rfl,((Z2 z H I b q))}) hs
theorem ix_str:IxR X zCO:=by
 intro a b pins s σ H x y v u Q I D w h hs;refine h.i λz i c L M K o q=>?_;subst L;subst M;obtain⟨t,rfl⟩:=D;obtain⟨G,rfl⟩:=w;refine(UO o).elim λj k=>k.p λm C J A B=>?_;have E:z.cps.toList.length=z.length:=by simp[Str.length]
 rw[E]at m A B;have F:=ER;exact tail_any (typeIs_str s z t) slot_str_getitem.lookup (getItem_str (by rw[(dF0 #[0]),(dF0 #[0]),Bool.or_false]) (by rw[m];simpa using C) (Z2 (.str {#[c]}) H (I.tok _) {_,rfl} q)) hs
def rIx(K:O0):R2:=λx y H Q=>zCM K x y H Q\/zCN K x y H Q\/zCO x y H Q
def Inv.lst(I:↑1)(h:H p=some (.lst xs)):
  ∃(j:A0)(n:Nat),Vals xs j/\s.heap.get? p=some {cls:=.type "list",data:=.seq j.toArray n}/\↑7<=sizeLine:=by
 obtain⟨z,j,n,r,e⟩:=I.hok p _ h;exact Z2 j n r e z
def Inv.lstUpd{a:A0}(I:↑1)(h:H p=some (.lst xs))
  (ho:s.heap.get? p=some {cls:=.type "list",data:=.seq a.toArray n}) (hf:f {cls:=.type "list",data:=.seq a.toArray n}={cls:=.type "list",data:=.seq its'.toArray n'}) (r:Vals ys its') (hz:ys.length<=sizeLine) (t):
  Inv X pins σ (yP H p (.lst ys)) {s with heap:=s.heap.update p f,toks:=t}:=by
 have e:(s.heap.update p f).get? p=some {cls:=.type "list",data:=.seq its'.toArray n'}:=by rw[Heap.get?_update_self f ho (by rw[hf]<;>rfl),hf]
 refine I.write (by rw[h];trivial) (.inl rfl) (λb u c q=>(õ _ _ (Ne.symm c)).trans q) {_,e} ?_;exact⟨hz,its',n',r,e⟩
def zCP:V->V->V->Hp->(Hp->Prop)->Prop:=λo i v H Q=> ∃p xs k j,o=.ref p/\i=.int k/\H p=some (.lst xs)/\QR ↑7 k=some j/\Q (yP H p (.lst (xs.set j v)))
theorem set_list:Lv X zCP:=by
 intro pins s σ H o i v M O u Q I K F E h;refine h.o λp xs k j P T D G q=>?_;subst P;subst T;cases K;obtain⟨t,rfl⟩:=F;refine(I.lst D).b λa n r m J=>?_;refine(UN G).g λb N C y=>?_;have w:=r.length;have L:=ER
 have A:Inv X pins σ _ {s with heap:=s.heap.update p _}:=
  I.lstUpd D m ((show Obj.mapSeq (·.setIfInBounds j u) {cls:=.type "list",data:=.seq a.toArray n}={cls:=.type "list",data:=.seq (a.set j u).toArray n} by simp[Obj.mapSeq])) (r.set E j) (by rw[Ć];exact J) s.toks
 by_cases B:0<=k
 .have c:=by rw[seqIndex_of B y]at b;exact è b
  exact PySem.W.ki_setAt m B #[0] (by rw[sA, <-w];exact y) (by rw[c];exact{_,A,q})
 .have c:(k+(a.toArray.size:Int)).toNat=j:=by rw[seqIndex_neg #[0] C]at b;rw[sA, <-w];exact è b
  exact PySem.W.ki_setBack m #[0] (by rw[sA, <-w];exact C) #[0] (by rw[c];exact{_,A,q})
theorem UP(lo hi)(n):(sliceBounds lo hi none n).1=((HT.sIx n 0 lo:Nat))/\(sliceBounds lo hi none n).2.1=((HT.sIx n n hi:Nat))/\(sliceBounds lo hi none n).2.2=1:=by
 refine{?_,?_,rfl}
 .cases lo with
  |none=>simp[sliceBounds,HT.sIx]
  |some i=>
   simp only[sliceBounds,HT.sIx,Option.getD_none,if_true];by_cases h:i<0
   .simp only[h,if_true]<;>lia
   .simp only[h,iF]<;>lia
 .cases hi with
  |none=>simp[sliceBounds,HT.sIx]
  |some i=>
   simp only[sliceBounds,HT.sIx,Option.getD_none,if_true];by_cases h:i<0
   .simp only[h,if_true]<;>lia
   .simp only[h,iF]<;>lia
theorem QV(a:A0)(lo hi):slicePick a.toArray lo hi none=((a.drop (HT.sIx a.length 0 lo)).take (HT.sIx a.length a.length hi - HT.sIx a.length 0 lo)).toArray:=by refine(UP lo hi a.toArray.size).f λc j b=>?_;unfold slicePick;rw[c,j,b];simp only[sliceRange_one,pick_run]<;>rfl
def rSlL(K:O0):V->Option Int->Option Int->Hp->VK->Prop:=λx lo hi H Q=> ∃a xs,x=.ref a/\SqL K H a xs/\ ∀p,H p=none->Q (.ref p) (yP H p (.lst (Ig xs lo hi)))
theorem Tj:SlR X (rSlL X.K):=by intro pins s σ H x v B C lo hi sl Q I y hs m o h;refine h.b λa xs k u q=>?_;subst k;subst y;refine(I.list u).c λw r j A=>?_;have c:=r.length;refine Z2 _ _ slot_list_getitem.lookup j.isList.typeIs ?_;refine wpAny_getItem_list_slice j.isList hs m o .none (by simp) ?_ (by rw[sA]<;>lia);rw[QV, <-c];refine Z2 (.ref ↑0) _ (I.laid (λb ob q=>hP0 _ q) (à _) ?_) rfl (q _ (I.hok.fresh (à _)));exact{ó (KL xs lo hi) A,_,0,(r.drop _).take _,á _ rfl}
noncomputable def rD:V->Bool
 |.non=>true
 |.bl _=>true
 |.int _=>true
 |.str _=>true
 |_=>false
noncomputable def Tl:V->V->Bool
 |.non,.non=>true
 |.bl a,.bl b=>a==b
 |.bl a,.int b=>(if a then 1 else 0)==b
 |.int a,.bl b=>a==(if b then 1 else 0)
 |.int a,.int b=>a==b
 |.str a,.str b=>a==b
 |_,_=>false
def K1(m:RelV y u)(c:RelV x v)(q:rD y=true)(o:rD x=true):SeqAt.EqAt A s u v (Tl y x):=by
 cases y with
 |non=>
  cases m
  cases x with
  |non=>subst c;exact SeqAt.EqAt.same _
  |bl b=>subst c;exact SeqAt.EqAt.none_bool b
  |int b=>obtain⟨t,rfl⟩:=c;exact SeqAt.EqAt.none_int b t
  |str b=>obtain⟨t,rfl⟩:=c;exact SeqAt.EqAt.none_str b t
  |_=>exact absurd o xF0
 |bl a=>
  subst m
  cases x with
  |non=>subst c;exact SeqAt.EqAt.bool_none a
  |bl b=>subst c;exact SeqAt.EqAt.bool_bool a b
  |int b=>obtain⟨t,rfl⟩:=c;exact SeqAt.EqAt.bool_int a b t
  |str b=>obtain⟨t,rfl⟩:=c;exact SeqAt.EqAt.bool_str a b t
  |_=>exact absurd o xF0
 |int a=>
  obtain⟨j,rfl⟩:=m
  cases x with
  |non=>subst c;exact SeqAt.EqAt.int_none a j
  |bl b=>subst c;exact SeqAt.EqAt.int_bool a j b
  |int b=>obtain⟨t,rfl⟩:=c;exact SeqAt.EqAt.int_int a j b t
  |str b=>obtain⟨t,rfl⟩:=c;exact SeqAt.EqAt.int_str a j b t
  |_=>exact absurd o xF0
 |str a=>
  obtain⟨j,rfl⟩:=m
  cases x with
  |non=>subst c;exact SeqAt.EqAt.str_none a j
  |bl b=>subst c;exact SeqAt.EqAt.str_bool a j b
  |int b=>obtain⟨t,rfl⟩:=c;exact SeqAt.EqAt.str_int a j b t
  |str b=>obtain⟨t,rfl⟩:=c;exact SeqAt.EqAt.str_str a j b t
  |_=>exact absurd o xF0
 |_=>exact absurd q xF0
theorem UR:CallR X (.builtin "len") (λxs H Q=> ∃z,xs=[.str z]/\z.length<=sizeLine/\Q (.int z.length) H):=by intro pins s σ H xs b Q I r h;refine h.c λz j c q=>?_;subst j;obtain⟨u,rfl,t,rfl⟩:=vals1 r;have a:=ER;exact len_str #[0] (Z2 (.int z.length) H (I.tok _) {_,rfl} q)
def CallR.or(h:CallR X f r)(h':CallR X f r'):CallR X f (λxs H Q=>r xs H Q\/r' xs H Q):=by
 intro pins s σ H xs a Q I rs q;rcases q with q|q
 .exact h pins s σ H xs a Q I rs q
 .exact h' pins s σ H xs a Q I rs q
theorem US:CallR X (.type "list") (λxs H Q=> ∃p ys,xs=[.ref p]/\(SqL X.K H p ys\/SqT X.K H p ys)/\ ∀l,H l=none->Q (.ref l) (yP H l (.lst ys))):=by
 intro pins s σ H xs F Q I r h;refine h.b λp ys k v q=>?_;subst k;refine(vals1 r).a λu G E=>?_;subst G;subst E
 have y: ∀(a:A0),Vals ys a->ys.length<=sizeLine-> ∀(h':Heap)(b:Nat),_->
   h'.get? ↑0=some {cls:=.type "list",dict:=none,data:=.seq a.toArray b,slots:=#[]}->EP X pins σ Q _ {s with heap:=h'}:=λa c A h' b j e=>
  (Z2 (.ref ↑0) _ (I.laid j (à _) (show ObjOk X.prog X.w _ h' _ (.lst ys)from⟨A,a,b,c,e⟩)) rfl (q _ (I.hok.fresh (à _))))
 rcases v with v|v
 .obtain⟨a,c,C,A⟩:=I.list v;have m:=c.length;obtain⟨o,D,B,n,hd⟩:=C.isList;exact call_list_seq p (.inl rfl) D B hd (λh' b j e=>y a c A h' b j e) (by simp only[sA]<;>lia)
 .obtain⟨a,c,C,A⟩:=I.tuple v;have m:=c.length;obtain⟨o,D,B,n,hd⟩:=C;exact call_list_seq p (.inr rfl) D B hd (λh' b j e=>y a c A h' b j e) (by simp only[sA]<;>lia)
theorem QW:CallR X (.type "tuple") (λxs H Q=> ∃p ys,xs=[.ref p]/\((SqL X.K H p ys/\ ∀l,H l=none->Q (.ref l) (yP H l (.tup ys)))\/(SqT X.K H p ys/\Q (.ref p) H))):=by
 intro pins s σ H xs B Q I r h;obtain⟨p,ys,rfl,h⟩:=h;refine(vals1 r).a λu k A=>?_;subst k;subst A;rcases h with⟨hq,q⟩|⟨hq,q⟩
 .refine(I.list hq).c λa c j v=>?_;have m:=c.length;refine call_tuple_list j.isList (λh' w=>?_) (by simp only[sA]<;>lia);have I1:Inv X pins σ H {s with heap:=h'}:=I.kept w
  have y:Inv X pins σ (yP H h'.objs.size (.tup ys)) {s with heap:=h'.push {cls:=.type "tuple",data:=.seq a.toArray}}:=
   I1.laid (λb o e=>hP0 _ e) (à _) ({v,a,c,IsTup.new _ _})
  exact Z2 (.ref h'.objs.size) _ y rfl (q _ (I1.hok.fresh (à _)))
 .refine(I.tuple hq).c λa c j v=>?_;exact call_tuple_same j (Z2 (.ref p) H I rfl q)
def tyV(K:O0)(T:String)(x:V)(H:Hp):Prop:=match x with
 |.str _=>T="str"
 |.int _=>T="int"
 |.ref p=>(T="list"/\ ∃xs,SqL K H p xs)\/(T="tuple"/\ ∃o,K.lookup p=some o/\o.cls=.type "tuple"/\o.dict=none)\/
   (T="dict"/\((∃a,H p=some (.dK a))\/ ∃a,H p=some (.dT a)))\/(T="set"/\ ∃S n,H p=some (.set S n))
 |_=>False
def K2(I:↑1)(r:RelV x v)(j:tyV X.K T x H):
  s.TypeIs v T/\ ∀a,v=.ref a-> ∃ob,s.heap.get? a=some ob/\ob.dict=none:=by
 cases x with
 |str z=>
  obtain⟨t,rfl⟩:=r;subst j;exact{typeIs_str s z t,λ_ e=>nomatch e}
 |int i=>
  obtain⟨t,rfl⟩:=r;subst j;exact{typeIs_int s i t,λ_ e=>nomatch e}
 |ref p=>
  subst r;rcases j with⟨rfl,xs,hq⟩|⟨rfl,o,hk,hc,hd⟩|⟨rfl,hk⟩|⟨rfl,S,n,hk⟩
  .refine(I.list hq).c λu _ q _=>?_;refine{q.isList.typeIs,λa e=>?_};cases e;refine q.l λo n e c hd _=>?_;exact⟨o,e,hd⟩
  .refine{{o,I.kIn p o hk,hc},λa e=>?_};cases e;exact{o,I.kIn _ o hk,hd}
  .have z: ∃o,s.heap.get? p=some o/\o.ExactDict:=by
    rcases hk with⟨kvs,hk⟩|⟨kvs,hk⟩
    .obtain⟨_,_,_,_,o,_,_,e,b,_⟩:=I.hok p _ hk;exact⟨o,e,b⟩
    .obtain⟨_,_,_,_,o,_,_,e,b,_⟩:=I.hok p _ hk;exact⟨o,e,b⟩
   obtain⟨o,e,b⟩:=z;refine{{o,e,b.1},λa m=>?_};cases m;exact{o,e,b.2.1}
  .refine(I.hok p _ hk).j λo _ _ _ k=>k.f λe b _=>?_;refine{{o,e,b.1},λa m=>?_};cases m;exact{o,e,b.2.1}
 |_=>exact False.elim j
def tBM(K:O0)(T:String)(r:V->List V->Hp->VK->Prop)(b:TE)(t:TA):TE:=λσ H Q=>b σ H λx a=>tyV K T x a/\t σ a λxs c=>r x xs c Q
variable{apos cpos:Pos}{id:String}
def zCQ(G:PlainAttrs T)(a:Slot T name id)(b:typeOf (.builtin id)=pure (.type "method_descriptor"))(F:Th X id r)(w:PE X o to)(M:PA X (e::es) t)
  (hbase:attributeBase o name X.env (eval o X.env)=eval o X.env:=by rfl)
  (hfew:((backTo cpos (starEach (e::es) X.env)).all (λx=>!x.1)&&(backToKw cpos (keywordEach [] X.env)).all (λx=>x.1.isSome)
   &&decide ↑3)=true:=by rfl)
  (hline:(apos.endLine==cpos.line)=true:=by rfl) (hs:q9 X e es:=by rfl) (hplain:(backTo cpos (starEach es X.env)).any (·.1)=false:=by rfl):
  PE X (.Call (.Attribute o name apos) (e::es) [] cpos) (tBM X.K T r to t):=by
 rw[22];refine wpAny_Call_method_late hbase hfew hline rfl (xV (w pins s σ H _ I h) λv q ⟨x,y,I1,c,C,m⟩=>?_);obtain⟨N,D⟩:=K2 I1 c C;refine Y6 T id {G,a,b,N,D,?_};have j:=M cpos pins q σ y _ I1 m;rw[hs]at j ⊢;refine Calls.callWith_builtin (by show(false || (backTo cpos _).any (·.1))=false;rw[hplain]<;>rfl) (Calls.evalArgs_plain ?_);exact xV j λJ L ⟨vs,A,u,B,E⟩=>F pins L σ A x vs v J Q u c B E
end
def MtM(X:Cx)(id:String)(r:V->List V->Hp->VK->Prop):Prop:=
 ∀(pins:L0)(s:Ō)(σ:St)(H:Hp)(x:V)(xs:List V)(v:ō)(us:A0)(Q:VK),Inv X pins σ H s->RelV x v->Vals xs us->r x xs H Q->
  wpAny ↑5 X.A (call (.builtin id) (v::us)) (EP X pins σ Q) X.xe s
def Vals.one(h:Vals [x] us): ∃u,us=[u]/\RelV x u:=by
 cases h with
 |cons r t=>cases t;exact Z3 _ rfl r
theorem Vals.zero: ∀{us},Vals [] us->us=[]
 |_,.nil=>rfl
theorem Vals.eraseIdx: ∀{xs}{us} i ,Vals xs us->Vals (xs.eraseIdx i) (us.eraseIdx i)
 |_,_,_,.nil=>.nil
 |_,_,0,.cons _ t=>t
 |_,_,i+1,.cons r t=>.cons r (Vals.eraseIdx i t)
def Vals.reverse(h:Vals xs us):Vals xs.reverse us.reverse:=by
 induction h with
 |nil=>exact .nil
 |cons r t ih=>rw[reverse_cons,reverse_cons];exact Vals.append ih (.cons r .nil)
theorem Vals.rep(h:Vals xs us): ∀k:Nat,Vals (List.replicate k xs).flatten (List.replicate k us).flatten
 |0=>.nil
 |k+1=>by exact Vals.append h (Vals.rep h k)
theorem SH{α:Type}: ∀(l:List α) i ,(l.eraseIdx i).length<=l.length
 |[],_=>à _
 |_::_,0=>le_succ _
 |_::r,i+1=>Nat.succ_le_succ (SH r i)
theorem foldl_rep(its): ∀ k (j:A0),
  List.foldl (λq m=>q++m) j.toArray (List.replicate k its.toArray)=(j++(List.replicate k its).flatten).toArray
 |0,j=>by simp
 |k+1,j=>by
  have e:j.toArray++its.toArray=(j++its).toArray:=by simp
  have a:(j++its)++(List.replicate k its).flatten=j++(List.replicate (k+1) its).flatten:=by rw[Ŋ,flatten_cons,aA]
  rw[<-a, <-foldl_rep its k _, <-e,Ŋ,ņ]
section
def Inv.lset{a:A0}(I:↑1)(j:H l=some (.lst xs))
  (e:s.heap.get? l=some {cls:=.type "list",data:=.seq a.toArray n}) (hf:f a.toArray=its'.toArray) (hv:Vals ys its') (hz:ys.length<=sizeLine):
  Inv X pins σ (yP H l (.lst ys)) {s with heap:=s.heap.update l (Obj.mapSeq f),toks:=t'}:=by
 have q:=PySem.IsL.update e f;rw[hf]at q;refine I.write (by rw[j];exact trivial) (.inl rfl) (λm u c b=>(õ s.heap _ (Ne.symm c)).trans b) {_,q} ?_;exact{hz,its',_,hv,q}
def Inv.lnew(I:↑1)(a:Vals ys its)(hz:ys.length<=sizeLine):
  Inv X pins σ (yP H ↑0 (.lst ys)) {s with heap:=s.heap.push {cls:=.type "list",data:=.seq its.toArray},toks:=t'}:=
 I.laid (λ_ _ q=>hP0 _ q) (à _) {hz,its,0,a,á _ rfl}
def Inv.fresh(I:↑1):H ↑0=none:=I.hok.fresh (à _)
def Inv.lstM(I:↑1)(a:H l=some (.lst xs)):↑7<=sizeLine/\ ∃(j:A0)(n:Nat),Vals xs j/\↑7=j.length/\s.heap.get? l=some {cls:=.type "list",data:=.seq j.toArray n}:=by obtain⟨z,j,n,r,e⟩:=I.hok l _ a;exact⟨z,j,n,r,r.length,e⟩
theorem YN(h:n<=sizeLine):Builtin.List.listTooLong n=false:=by exact dF0 #[0]
end
section
def Ew:V->List V->Hp->VK->Prop:=λx vs H Q=> ∃l xs y,x=.ref l/\vs=[y]/\H l=some (.lst xs)/\↑7<sizeLine/\Q .non (yP H l (.lst (xs++[y])))
def Ex:V->List V->Hp->VK->Prop:=λx vs H Q=> ∃l b xs a,x=.ref l/\vs=[.ref b]/\H l=some (.lst xs)/\H b=some (.lst a)/\↑7+a.length<=sizeLine/\Q .non (yP H l (.lst (xs++a)))
def Mj:V->List V->Hp->VK->Prop:=λx vs H Q=> ∃l xs i k y,x=.ref l/\vs=[.int i]/\H l=some (.lst xs)/\ -(2 ^ 63)<=i/\i<2 ^ 63/\seqIndex? i ↑7=some k/\xs[k]? =some y/\Q y (yP H l (.lst (xs.eraseIdx k)))
def rCat:R2:=λx y H Q=> ∃l b xs a,x=.ref l/\y=.ref b/\H l=some (.lst xs)/\H b=some (.lst a)/\↑7+a.length<=sizeLine/\ ∀p,H p=none->Q (.ref p) (yP H p (.lst (xs++a)))
theorem K4:OpR X (binaryOp .Add) rCat:=by
 intro pins s σ H x y v u Q I B o h;refine h.j λl b xs F k=>k.e λL M C D J q=>?_;subst L;subst M;subst B;subst o;obtain⟨z,c,n,r,K,e⟩:=I.lstM C;obtain⟨E,a,G,m,j,w⟩:=I.lstM D;refine PySem.P.add_list e w ?_ (by refine qq sA (qq sA ?_);lia);have A:c.toArray++a.toArray=(c++a).toArray:=by simp
 refine qq A ?_;exact Z2 (.ref _) _ (I.lnew (r.append m) (by refine qq lA ?_;omega)) rfl (q _ I.fresh)
def rRep:R2:=λx y H Q=> ∃l k xs,x=.ref l/\y=.int k/\H l=some (.lst xs)/\ -(2 ^ 63)<=k/\k<2 ^ 63/\↑7 * k.toNat<=sizeLine/\
 ∀p,H p=none->Q (.ref p) (yP H p (.lst (List.replicate k.toNat xs).flatten))
def len_rep{α:Type}(xs:List α)(k):(List.replicate k xs).flatten.length=k * xs.length:=by
 induction k with
 |zero=>simp
 |succ k ih=>rw[Ŋ,flatten_cons,lA,ih,Nat.succ_mul,Nat.add_comm]
theorem K5:OpR X (binaryOp .Mult) rRep:=by
 intro pins s σ H x y v u Q I L E h;refine h.h λl k xs P=>P.w λT U M O K D q=>?_;subst T;subst U;cases L;obtain⟨t,rfl⟩:=E;obtain⟨z,b,n,r,N,e⟩:=I.lstM M;have o:b.toArray.size * k.toNat<=sizeLine:=by rw[sA, <-N];exact D
 have j: ¬b.toArray.size * k.toNat>(2 ^ 63 - 1) / 8:=by
  have:(sizeLine:Nat)<=(2 ^ 63 - 1) / 8:=by decide
  lia
 have A: ¬(!Builtin.List.listFitsIndex k)=true:=by rw[fitsIndex_both O K];exact xF0
 have c: ¬Builtin.List.listTooLong (b.toArray.size * k.toNat)=true:=by rw[YN o];exact xF0
 have w:List.foldl (λB C=>B++C) #[] (List.replicate (if b.toArray.isEmpty=true then 0 else k.toNat) b.toArray)=(List.replicate k.toNat b).flatten.toArray:=by
  have G: ∀m:Nat,List.foldl (λB C=>B++C) #[] _=(List.replicate m b).flatten.toArray:=λm=>by have:=foldl_rep b m [];exact this
  rw[G]
  cases b with
  |nil=>simp
  |cons a r'=>rw[iN (by simp)]
 refine wpAny_binaryOp_repeat_ref ↑15 {_,e,rfl} (λJ=>typeIs_int J k t) noFill_list_mul F.fills_int_mul F.slot_int_rmul repeat_list F.slot_int_index.lookup
  (ģ F.slot_int_rmul (typeIs_int s k t) F.entry_int_rmul (F.args_int_rmul_2 _ _) (int___rmul___int_list k t l b.toArray n)
   {e,rfl,{_,e,rfl},ģ F.slot_list_mul {_,e,rfl} F.entry_list_mul (F.args_list_mul_2 _ _) (AutoListH.list___mul___list_int_3 l b.toArray n k t A j c) {e,?_}})
 rw[w];exact Z2 (.ref _) _ (I.lnew (r.rep k.toNat) (by rw[len_rep,Nat.mul_comm];exact D)) rfl (q _ I.fresh)
end
end L2
namespace Att
open PySem PySem.W PySem.Calls PyProof.Rows
def LR: ∀ j  vs ,WellAll P h vs (j.map WData.int)->IntsAre vs j:=by
 intro j
 induction j with
 |nil=>
  intro vs w;cases w;exact .nil
 |cons n j ih=>
  intro vs w
  cases w with
  |cons a b=>
   cases a;exact .cons _ _ (ih _ b)
theorem Ij{l:OpenLaw}(v:l.most=some n)
  (hpre:l.row.toRowW.claim.pre args=true) (hwl:WellAll P h vals args):
  ∃a vs j,vals=[Value.ref a]/\args=[WData.list (j.map WData.int)]/\h.get? a=some {cls:=.type "list",data:=.seq vs.toArray}/\IntsAre vs j/\j.length<=n:=by
 have o:=(pre_splitW hpre).1;have u:l.pre.holds [] {args:=args}=true:=(pre_splitW hpre).2;refine(hasAllW_cons o).b λd r k A w=>?_;subst k;obtain rfl:=hasAllW_nil w;refine(hasW_list A).a λxs B y=>?_;subst B;obtain⟨j,rfl⟩:=items_int y
 have b:j.length<=n:=by
  have c:=by have c:=(holds_andW u).1;rw[v]at c;exact c
  have m:=condW_of c (w_not (w_lt w_lit (w_len_list (w_arg rfl))));refine Nat.le_of_not_lt λq=>?_;have s:=by omega
  first
   |(rw[dT0 s]at m;exact absurd m (by decide))
   |(simp at m;lia)
 cases hwl with
 |cons w1 w2=>
  cases w2
  cases w1 with
  |list ho hall=>exact Y4 _ _ j rfl rfl ho (LR j _ hall) b
def attach_call{l:OpenLaw}
  (hn:l.most=some n) (hdf:d.params.defaults=[])
  (call: ∀ w  m j  mg I  v  o  J cd u  a  vs  D ,
   Ground q loose [] XP w m mg I j.heap->YP w j.heap->
   j.heap.get? v=some o->o.data=.func (docDef d.name d.params d.body d.scope J cd u)->j.heap.CodeRec cd d.name->mg d.name=some (.ref v)->
   j.heap.get? a=some {cls:=.type "list",data:=.seq vs.toArray}->IntsAre vs D->D.length<=n->j.gens=#[]->
   codeAny (model l.prog w) callerA (.call (.ref v) {[.ref a],[]}) (λr B=>r=.ok (.ret (.bool true))/\OldK j.heap B.heap/\B.os=j.os/\AllBare B.gens) j):
  WalkO q loose XP YP l.row.toRowW d [] (λf vs=>PySem.call f vs):=by
 intro w m j mg I G Y v o J cd u P kV T hd E L C N K F as c H O A M;obtain rfl:P=.none:=Dflts.none L hdf;obtain rfl:kV=.none:=Dflts.noKw L;refine(Ij hn c A).i λa vs D k V s b y=>?_;subst k;subst V;refine enter_call (codeAny_mono (call w m j mg I v o J cd u a vs D G Y T (fd_plain hd) E C s b y N) λr B S=>?_);refine S.g λZ W X Q=>?_;subst Z;exact{.inl (Y4 _ _ ([]) rfl (λ_=>rfl) (.bool true) (postW_of
    (by first |rfl|decide|simp[WShape.has,WShape.arms,WShape.armsAll])
    (w_eq_bool (w_res rfl) w_lit) rfl) (λ_=>{List.Pairwise.nil,λ_ U=>(nomatch U)})),W,X,Q}
end Att
namespace L2
open PySem PySem.Spec PyProof.Rows
def Il: ∀{vs}{j},IntsAre vs j->Vals (j.map V.int) vs:=λa=>by
 induction a with
 |nil=>exact .nil
 |cons n t h ih=>exact .cons ⟨t,rfl⟩ (ih)
def To(H:Hp):Prop:= ∀b,H b=none\/(∃o xs,H b=some (.frz o (.lst xs)))\/ ∃ps,H b=some (.tbl ps)
theorem Mm{K:O0}
  (KX:K.In s₁.heap) (hns:s₁.heap.Ns mainGlobals mg) (B:s₁.heap.Ns builtinsNs mb) (hbb: ∀x:Str,x≠"__name__"->mb x=bootBuiltins x) (hlim:s₁.heap.NoLimit) (hg:s₁.gens=#[])
  (ha:s₁.heap.get? a=some {cls:=.type "list",data:=.seq vs.toArray}) (hi:IntsAre vs ns) (hl:ns.length<=sizeLine) (hr:Room k callerA)
  (F: ∀base:Heap,K.In base->base.Ns mainGlobals mg->FnOk P w K mg base CX k fa fd [x] sp) (hbind: ∀ s  u ,BindsTo s fd {[u],[]} [(x,u)])
  (hsp: ∀H:Hp,To H->SqL K H a (ns.map V.int)->sp [.ref a] H (λv _=>v=.bl true) λ_ _ _=>False)
  (hCX: ∀H e D,CX [] H s₁ (λ_ _ _=>False) e D->False) (hT: ∀b ps,tabAt P K b=some ps->K.lookup b=none/\s₁.heap.get? b=some {cls:=.none,data:=.fields #[]}/\isCodeTable s₁.heap b)
  (hcd: ∀e∈EN P, ∀c b,PySem.W.tabIn K e.1=some (c,b)->PySem.W.CodeHd s₁.heap c b) (hbm: ∃T ob,mg "__builtins__"=some (.ref T)/\T≠builtinsNs/\s₁.heap.get? T=some ob/\ob.cls=.type "module"/\ob.dict=some builtinsNs/\ob.data=.plain):
  codeAny (model P w) callerA (.call (.ref fa) {[.ref a],[]}) (λr D=>r=.ok (.ret (.bool true))/\OldK s₁.heap D.heap/\D.os=s₁.os/\AllBare D.gens) s₁:=by
 have rv:=Il hi
 have E: ∀H:Hp,(∀b,H b=none\/(∃o xs,H b=some (.frz o (.lst xs)))\/ ∃ps,tabAt P K b=some ps/\H b=some (.tbl ps))->SqL K H a (ns.map V.int)->HOk P w H s₁.heap->(∀b,H b≠none->b=a\/ ∃ps,tabAt P K b=some ps)->(H a≠none->K.lookup a=none)->(∀b ps,tabAt P K b=some ps->H b=some (.tbl ps))->
   codeAny (model P w) callerA (.call (.ref fa) {[.ref a],[]}) (λr D=>r=.ok (.ret (.bool true))/\OldK s₁.heap D.heap/\D.os=s₁.os/\AllBare D.gens) s₁:=by
  intro H hO hS J hA hK aa;have j: ∀{b:Addr}{o:Obj},s₁.heap.get? b=some o->H b=none->(Hw s₁.heap H).get? b=some o:=λe n=>(PySem.W.hideAll_get _ e λhm=>by have q:=(Ē.mp hm).2;rw[n]at q;simp at q)
  have L: ∀{b:Addr}{o:Obj}{n:String},s₁.heap.get? b=some o->o.cls=.type n->n≠"list"->H b=none:=λ{b o n} e d ne=>by
   cases q:H b with
   |none=>rfl
   |some u=>
    rcases hA b (by rw[q];simp)with rfl|⟨ps,z⟩
    .rw[ha]at e;cases e;cases d;exact absurd rfl ne
    .rw[(hT b ps z).2.1]at e;cases e;cases d
  have ab: ∀{b:Addr}{o:Obj}{es:Array DictEntry}{U:Nat},s₁.heap.get? b=some o->o.data=.dict es U->H b=none:=λ{b o es U} e d=>by
   cases q:H b with
   |none=>rfl
   |some u=>
    rcases hA b (by rw[q];simp)with rfl|⟨ps,z⟩
    .rw[ha]at e;cases e;cases d
    .rw[(hT b ps z).2.1]at e;cases e;cases d
  have A: ∀{b:Addr}{m:G0},s₁.heap.Ns b m->(Hw s₁.heap H).Ns b m:=λ{b m} ⟨o,es,U,e,d,r⟩=>(Zj o es U {j e (ab e d),d,r})
  have N:=λb o e=>j (KX b o e) (by
   cases q:H b with
   |none=>rfl
   |some u=>
    rcases hA b (by rw[q];simp)with rfl|⟨ps,z⟩
    .rw[hK (by refine qq q ?_;simp)]at e;cases e
    .rw[(hT b ps z).1]at e;cases e)
  refine codeAny_mono ((F _ N (A hns)).run callerA [] s₁ H {_,[]} [.ref a] [.ref a] _ _ hr ({rfl,({N,A hns,(Z3 mb (A B) hbb),let ⟨mc,Y,h2⟩:=hlim;(Z3 mc (A Y) h2),let ⟨T,ob,Y,h2,h3,h4,r⟩:=hbm;(Ys T ob Y h2 (j h3 (L h3 h4 ↑15)) h4 r)}),λb o e=>Sf e,{le_of_eq ((PySem.W.hideAll_size _ _)),aa,λe he c b ht=>Exists.x (hcd e he c b ht) λo vs M tf fl tg QS Q tt z0=>XL o vs M tf fl tg QS Q tt {j z0.1 (L z0.1 z0.2.1 ↑15),z0.2}},trivial,λb B=>absurd (show b∈([]:B9)from B) (by simp),J,.of_eq hg}) (hbind s₁ _) (.cons rfl .nil) (hsp H (λb=>(hO b).imp id (Or.imp id λ⟨ps,_,z⟩=>⟨ps,z⟩)) hS)) λr D h=>?_
  cases r with
  |error e=>exact(hCX H e D h).elim
  |ok fl=>
   cases fl with
   |next=>exact False.elim h
   |brk=>exact False.elim h
   |cont=>exact False.elim h
   |ret u=>
    refine h.k λv H' a0=>a0.e λos S un G r' q=>?_;subst q;obtain rfl:u=Value.bool true:=r';refine{rfl,{λb o e=>?_,λb o e=>un.there b o e (by simp)},os,S};rcases hO b with z|⟨ob,xs,z⟩|⟨ps,O,z⟩
    .exact .inl (un.keep b o e z (by intro z;exact absurd (show b∈([]:B9)from z) (by simp)) (by simp))
    .have z2:=un.frzs b ob _ z;obtain⟨C,_⟩:=J b _ z;obtain⟨I,_⟩:=G b _ z2;rw[e]at C;cases C;exact .inl I
    .refine(hT b ps O).f λ_ C ct=>?_;refine(G b _ (un.tbls b ps z)).a λus I _=>?_;rw[e]at C;cases C;exact .inr (.inl {ct,rfl,#[],us,rfl,by rw[I];simp})
 have tb: ∀{H:Hp}{b:Addr}{ps:B0},tabAt P K b=some ps->ObjOk P w H s₁.heap b (.tbl ps):=λz=>{#[],(hT _ _ z).2.1,.inl rfl}
 have na: ∀ps,tabAt P K a=some ps->False:=λps z=>by have:=(hT a ps z).2.1;rw[ha]at this;cases this
 cases Z:K.lookup a with
 |some o=>
  have e:=KX a o Z;rw[ha]at e;cases e;refine E (λb=>(tabAt P K b).map .tbl) (λb=>?_) (.inr (Zj _ _ _ {Z,rfl,rfl,rfl,(by refine qq sA (qq ((hi.length)) ?_);exact hl),(by simpa using rv)})) (λb u z=>?_) (λb z=>?_) (λz=>?_) λb ps z=>by rw[z];rfl
  .cases z:tabAt P K b with
   |none=>exact .inl rfl
   |some ps=>exact .inr (.inr ⟨ps,rfl,rfl⟩)
  .refine(ć.mp z).a λps O ac=>?_;subst ac;exact tb O
  .cases q:tabAt P K b with
   |none=>exact absurd (by rw[q];rfl) z
   |some ps=>exact .inr ⟨ps,rfl⟩
  .cases q:tabAt P K a with
   |none=>exact absurd (by rw[q];rfl) z
   |some ps=>exact(na ps q).elim
 |none=>
  refine E (λb=>if b=a then some _ else(tabAt P K b).map .tbl) (λb=>?_) (.inl (.inr {{cls:=.type "list",data:=.seq vs.toArray},iP rfl})) (λb u z=>?_) (λb z=>?_) (λ_=>Z) λb ps z=>?_
  .by_cases B:b=a
   .exact .inr (.inl {_,_,iP B})
   .skip
    refine qq (iN B) ?_
    cases z:tabAt P K b with
    |none=>exact .inl rfl
    |some ps=>exact .inr (.inr ⟨ps,rfl,rfl⟩)
  .by_cases B:b=a
   .have X:=(iP B).symm.trans z;cases X;cases B;exact{ha,by rw[lM];exact hl,vs,_,rv,ha}
   .have X:=(iN B).symm.trans z;refine(ć.mp X).a λps O am=>?_;subst am;exact tb O
  .by_cases B:b=a
   .exact .inl B
   .rw[iN B]at z
    cases q:tabAt P K b with
    |none=>exact absurd (by rw[q];rfl) z
    |some ps=>exact .inr ⟨ps,rfl⟩
  .rw[iN λy=>na ps (by rw[<-y];exact z),z];rfl
def walk_of{l:PySem.W.OpenLaw}{K:Params->PySem.W.Frag}{CX:World->Id}{sp:World->Sp}
  (hn:l.most=some n) (hn2:n<=sizeLine) (hdf:d.params.defaults=[]) (hr:Room k callerA)
  (hY: ∀ w  h ,YP w h->(K w.params).In h)
  (F: ∀ w  mg  I  h ,(K w.params).In h->h.Ns mainGlobals mg->mg d.name=some (.ref I)->
   ∃Q:FuncData,(∀ s  u ,BindsTo s Q {[u],[]} [(x,u)])/\
    ∀base:Heap,(K w.params).In base->base.Ns mainGlobals mg->FnOk l.prog w (K w.params) mg base (CX w) k I Q [x] (sp w))
  (hsp: ∀ w  H  a (J:Za),J.length<=n->To H->SqL (K w.params) H a (J.map V.int)->sp w [.ref a] H (λv _=>v=.bl true) λ_ _ _=>False)
  (hCX: ∀ w  H  s  e  O ,CX w [] H s (λ_ _ _=>False) e O->False)
  (hN:(EN l.prog).all (λe=>((recsOf q).find? λd=>d.name==e.1).isSome)=true) (hno:EN l.prog=[]\/ ∀w:World,PySem.W.noTabs (K w.params)=true):
  PySem.W.WalkO q loose XP YP l.row.toRowW d [] (λf vs=>PySem.call f vs):=by
 refine Att.attach_call hn hdf λw U D mg mb I o pm cd aa a vs J G Y ho hd ab P C m j hg=>?_;have KX:=hY w _ Y;refine(F w mg I _ KX G.T.g P).a λQ M Z=>?_;refine Mm KX G.T.g G.T.b G.T.builtins G.T.nolimit hg C m (ó j hn2) hr Z M (λH hO X=>hsp w H a J j hO X) (λH e O=>hCX w H D e O) (λb ps M=>?_) (λe E c b N=>?_) G.T.bmain
 rotate_left
 .obtain⟨r,y⟩:=ê.mp (ü.mp hN e E);exact(PySem.W.tab_of G.T KX y N).1
 refine(ć.mp M).a λe E ac=>?_;subst ac;have A:=Ļ E;obtain⟨r,y⟩:=ê.mp (ü.mp hN e A);have L:=ĺ.mp (find?_some (p:=λe:Str×Array ō=>(PySem.W.tabIn (K w.params) e.1).map (·.2)==some b) E);refine(ć.mp L).a λam N e3=>?_;obtain ⟨c,S⟩:=am;obtain rfl:S=b:=e3;obtain⟨hc,B⟩:=PySem.W.tab_of G.T KX y N;refine{?_,B,(hc.tab B).isCodeTable}
 cases q:(K w.params).lookup S with
 |none=>rfl
 |some o=>
  have z:=KX _ _ q;rw[B]at z;cases z;rcases hno with z|z
  .rw[z]at A;cases A
  .exact absurd (show false=true from ü.mp (z w) _ (PySem.W.mem_of_lookupK q)) xF0
noncomputable def inClass(s:Stmt)(j:Nat):Stmt:=match s with
 |.ClassDef _ _ _ body _ _ _ _ _ _ _=>body.getD j (.Pass {0,0,0,0})
 |_=>.Pass {0,0,0,0}
noncomputable def fQ(s:Stmt):Arguments:=match s with
 |.FunctionDef _ a _ _ _ _ _ _ _ _=>a
 |_=>{posonlyargs:=[],args:=[],vararg:=none,kwonlyargs:=[],kw_defaults:=[],kwarg:=none,defaults:=[]}
noncomputable def wY(s:Stmt):List Stmt:=match s with
 |.FunctionDef _ _ b _ _ _ _ _ _ _=>b
 |_=>[]
noncomputable def zR(s:Stmt):Scope:=match s with
 |.FunctionDef _ _ _ _ _ _ sc _ _ _=>sc
 |_=>{kind:=.function,names:=[],isGenerator:=false,isCoroutine:=false}
abbrev rE:Id:=λ_ _ _ _ _ _=>False
abbrev E0:XK:=λ_ _ _=>False
def Mn:NH rE X E0:=λ_ _ _ _ _ _ _ h=>h.elim
structure Fun(K:O0)(x qual:Str)(st:Stmt)(f:Addr)(fd:FuncData):Prop where
 ex: ∃(oc:ō)(od:Option Addr)(kV doc pm:ō)(an:Option Addr)(cdv ct:ō)(osl:Array (Option ō)),
  fd=PySem.W.fnOf x qual (fQ st) (wY st) (zR st) .none kV doc pm an cdv ct/\K.lookup f=some {oc,od,.func fd,osl}/\PySem.W.codeIn K cdv qual=true
 kp:PySem.W.keepIn K (.ref f)=true
section
variable{K:O0}
def Fun.ok{st:Stmt}(F:Fun K x qual st f fd)(S:FnScope N ps (zR st))(len: ∀vs H Q E,sp vs H Q E->↑9=ps.length)
  (hbody: ∀ m  A  j  s  H  vs  Q  E ,Room k (A.deeper (envOfC qual (zR st) ↑0 f m))->sp vs H Q E->
   ∃t,PSs (UM rE P w K mg base N qual (zR st) f m A j s H E).nox (wY st) t/\t {nx:=λ_ H'=>Q .non H',rt:=Q} (start N vs) H):FnOk P w K mg base rE (k+1) f fd ps sp:=by
 refine F.ex.x λD y kV v G B m C o I=>I.f λJ c b=>?_;subst J;refine zCI c b S len λA j s H vs Q E u a=>?_;refine(hbody m A j s H vs Q E u a).a λt h q=>?_;exact Z3 t h.nox q
def Fun.binds{st:Stmt}(F:Fun K x qual st f fd)
  (h: ∀ kV m u  q  j ct  us ,us.length=ps.length->bindArgs (PySem.W.fnOf x qual (fQ st) (wY st) (zR st) .none kV m u q j ct) {us,[]}=pure (ps.zip us)):Binds K fd ps []:=by
 refine F.ex.x λc o kV m u q j ct a k=>k.f λv s b=>?_;subst v;exact .all (h kV m u q j ct)
def fun_mk{st:Stmt}{kV:ō}(l:K.lookup f=some {oc,od,.func (PySem.W.fnOf x qual (fQ st) (wY st) (zR st) .none kV doc pm an cdv ct),osl})
  (c:PySem.W.codeIn K cdv qual=true) (k:PySem.W.keepIn K (.ref f)=true):Fun K x qual st f (PySem.W.fnOf x qual (fQ st) (wY st) (zR st) .none kV doc pm an cdv ct):={(XL oc od kV doc pm an cdv ct osl ⟨rfl,l,c⟩),k}
end
section
variable{X:Cx}
def pv(i){pos:Pos}(b:X.N[i]? =some x:=by rfl)(o:zFQ X.env.scope x:=by first |exact Or.inl rfl|exact Or.inr (Or.inl rfl)|exact Or.inr (Or.inr rfl))(hd:(x==("__debug__"))=false:=by decide)
  (hcd:(x==("__classdict__"))=false:=by decide):PE X (.Name x pos) (zBN i):=(by
    rw[22];refine h.a λv e h=>?_;refine I.loc.a λm j q=>?_;refine(q i x v b e o).a λu r l=>?_;have a:EP X pins σ Q u s:=(Z2 v H I r h)
    rcases l with⟨hk,hm⟩|⟨hk,c,hc,hcell⟩
    .exact wpAny_Name (wpAny_loadName_local I.ok.kind hk j hm a) hd
    .rcases hk with hk|hk
     .exact wpAny_Name (wpAny_loadName_cell I.ok.kind hk hc hcell a) hd
     .exact wpAny_Name (wpAny_loadName_free I.ok.kind hk hc hcell a hcd) hd)
end
def Same(H H':Hp):Prop:= ∀b o,H b=some o->H' b=some o
def Same.refl(H):Same H H:=λ_ _ h=>h
end L2
set_option maxHeartbeats 4000000
namespace L2
open PySem PySem.Spec PyProof.Rows
noncomputable def vQ(a:Env)(l:List (Str×NameKind))(cs:List (Str×Addr)):List (Str×Addr):=
 l.foldl (λc y=>if y.2==.free then(y.1,(a.cells.lookup y.1).getD 0)::c else c) cs
def UT{α:Type}{l:List α}{f:α->β->Sem (ForInStep β)}{g:β->α->β}: ∀ c ,(∀x∈l, ∀c,f x c=pure (.yield (g c x)))->
  forIn l c f=pure (l.foldl g c):=by
 induction l with
 |nil=>intro c _;rfl
 |cons x l ih=>
  intro c h;rw[forIn_cons,h x mF0];exact ih _ λy a=>h y (mO _ a)
def QX(h: ∀y∈scope.names,y.2=.free-> ∃c,env.cells.lookup y.1=some c):closureFor scope env=pure (vQ env scope.names []):=by
 unfold closureFor vQ;dsimp only;rw[UT [] ?_]
 .rfl
 .intro y j c;obtain⟨n,k⟩:=y;by_cases b:k=.free
  .subst b;obtain⟨a,m⟩:=h _ j rfl;simp[cellOf,m]
  .have e:=by simpa using b
   simp[e]
theorem KM: ∀ l  cs ,(∀y∈l,y.2=.free-> ∃c,env.cells.lookup y.1=some c)->(∀p∈cs,env.cells.lookup p.1=some p.2)->
  ∀p∈vQ env l cs,env.cells.lookup p.1=some p.2
 |[],_,_,h=>h
 |(n,k)::l,cs,hl,h=>by
  refine KM l _ (λy q=>hl y (mO _ q)) λp j=>?_;by_cases m:k=.free
  .subst m;obtain⟨c,u⟩:=hl _ mF0 rfl;have a:p∈_::cs:=j;rcases mC.mp a with rfl|j
   .show env.cells.lookup n=some _;rw[u];rfl
   .exact h p j
  .have a:p∈(if _=true then _::cs else cs):=j;rw[iN (by simpa using m)]at a;exact h p a
theorem SI: ∀ l  cs  p ,p∈vQ env l cs->p∈cs\/(p.1,NameKind.free)∈l
 |[],_,_,h=>.inl h
 |(n,k)::l,cs,p,h=>by
  rcases SI l _ p h with z|z
  .dsimp only at z;split at z
   .rename_i j;rcases mC.mp z with rfl|z
    .exact .inr (by rw[<-show k=NameKind.free by simpa using j];exact mF0)
    .exact .inl z
   .exact .inl z
  .exact .inr (mO _ z)
theorem NL: ∀ l  cs  p ,p∈cs->p∈vQ env l cs
 |[],_,_,h=>h
 |_::l,cs,p,h=>by
  refine NL l _ p ?_;show p∈(if _=true then _::cs else cs);split
  .exact mO _ h
  .exact h
theorem vR: ∀ l  cs  n ,(n,NameKind.free)∈l-> ∃c,(n,c)∈vQ env l cs
 |[],_,_,h=>nomatch h
 |(m,k)::l,cs,n,h=>by
  rcases mC.mp h with e|h
  .have j:=congrArg Prod.fst e;have a:=congrArg Prod.snd e;subst j a;exact{_,NL l _ _ mF0}
  .exact vR l _ n h
theorem gF{β:Type}: ∀{l:List (Str×β)}{n},(∃c,(n,c)∈l)-> ∃c,l.lookup n=some c
 |[],_,h=>let ⟨_,z⟩:=h;nomatch z
 |(m,b)::l,n,h=>by
  by_cases e:n=m
  .subst e;exact{b,by simp[Ġ]}
  .obtain⟨c,o⟩:=h;rcases mC.mp o with z|z
   .cases z;exact absurd rfl e
   .obtain⟨a,h'⟩:=gF ⟨c,z⟩;refine{a,?_};have j:(n==m)=false:=by simpa using e
    simp[Ġ,j,h']
noncomputable def Tp(a b:Scope):List (Str×NameKind):=a.names.map λ(n,k)=>if(k==.free&&b.kind==.function&&b.names.lookup n==some .cell)then(n,.cell)else(n,k)
noncomputable def vS(a:Scope)(N:D0)(b:Scope)(c:Db):Bool:=
 decide (b.kind=.function)&&b.names.all (λy=>decide (b.names.lookup y.1=some y.2))&&
 b.names.all (λy=>decide (y.2≠.free) || decide (a.names.lookup y.1=some .cell) || decide (a.names.lookup y.1=some .free))&&
 c.all (λi=>match N[i]? with
  |some y=>(decide (a.names.lookup y=some .cell) || decide (a.names.lookup y=some .free))&&decide (b.names.lookup y=some .free)
  |none=>false)
def rlS(b a:Scope):Scope:={b with names:=Tp b a}
abbrev Ll(a:Env)(b:Scope)(C:Addr):List (Str×Addr):=cellsFrom (C+1) b.names (vQ a b.names [])
theorem xW: ∀ l  n  j ,cellsFrom n l j=cellsFrom n l []++j
 |[],n,j=>rfl
 |_::l,n,j=>by
  unfold cellsFrom;split
  .rw[xW l _ _,xW l _ [_],aA];rfl
  .exact xW l n j
theorem GN: ∀ l  n {x}{c},(x,c)∈cellsFrom n l []->(x,NameKind.cell)∈l/\n<=c
 |[],n,x,c,h=>nomatch h
 |(y,k)::l,n,x,c,h=>by
  unfold cellsFrom at h;split at h
  .rename_i q;rw[xW]at h;rcases ì.mp h with h|h
   .obtain⟨j,m⟩:=GN l _ h;exact{mO _ j,by lia}
   .have e:=mS.mp h;cases e;have a:=by simpa using q
    subst a;exact{mF0,à _}
  .obtain⟨j,m⟩:=GN l n h;exact{mO _ j,m}
def ES(h:(x,c)∈cellsFrom (C+1) l [])(a:n<=C):n<c:=ŋ a (GN l _ h).2
theorem CG: ∀ l  n {x},(x,NameKind.cell)∈l-> ∃c,(x,c)∈cellsFrom n l []
 |[],n,x,h=>nomatch h
 |(y,k)::l,n,x,h=>by
  unfold cellsFrom;rcases mC.mp h with e|h
  .cases e;rw[xW];exact{n,û _ mF0}
  .split
   .obtain⟨c,j⟩:=CG l _ h;rw[xW];exact{c,ę _ j}
   .exact CG l n h
theorem own_apart: ∀ l  n ,(cellsFrom n l []).Pairwise λx y=>x.2≠y.2
 |[],n=>List.Pairwise.nil
 |_::l,n=>by
  unfold cellsFrom;split
  .rw[xW];refine List.pairwise_append.mpr {own_apart l _,List.pairwise_singleton _ _,λa m b j e=>?_};rw[mS.mp j]at e;have:=(GN l _ m).2;exact ø this e
  .exact own_apart l n
theorem sB{β:Type}(x): ∀(l m:List (Str×β)),(l++m).lookup x=(l.lookup x).or (m.lookup x)
 |[],m=>rfl
 |(y,b)::l,m=>by
  rw[List.cons_append,Ġ,Ġ]
  cases x==y with
  |true=>rfl
  |false=>exact sB x l m
theorem SJ{β:Type}: ∀{l:List (Str×β)},(∀c,(x,c)∉l)->l.lookup x=none
 |[],_=>rfl
 |(y,b)::l,h=>by
  rw[Ġ]
  cases e:x==y with
  |true=>rw[ĺ.mp e]at h;exact absurd mF0 (h b)
  |false=>exact SJ λc j=>h c (mO _ j)
def iT(e:(Ll env sc C).lookup x=some c):(x,c)∈cellsFrom (C+1) sc.names []\/(vQ env sc.names []).lookup x=some c:=by
 unfold Ll at e;rw[xW,sB]at e
 cases z:(cellsFrom _ sc.names []).lookup x with
 |some c'=>rw[z]at e;cases e;exact .inl (PySem.mem_of_lookup z)
 |none=>rw[z]at e;exact .inr e
def K6(h:(x,NameKind.cell)∈sc.names)(e:(Ll env sc C).lookup x=some c):(x,c)∈cellsFrom (C+1) sc.names []:=by unfold Ll at e;rw[xW,sB]at e;obtain⟨a,h'⟩:=gF (CG sc.names _ h);rw[h']at e;cases e;exact PySem.mem_of_lookup h'
theorem Tq(h:(x,NameKind.cell)∉sc.names):(Ll env sc C).lookup x=(vQ env sc.names []).lookup x:=by unfold Ll;rw[xW,sB,SJ λc a=>h (GN _ _ a).1];rfl
noncomputable def IL(σ:St)(a:Db):St:=a.map λi=>(σ[i]?).join
def oQ(σ)(idx):(IL σ idx).length=idx.length:=by unfold IL;rw[lM]
def zP(X:Cx)(sc:Scope)(T:D0)(idx:Db)(C:Addr)(s₂:Ō)(H1:Hp)(fp:B9):Cx where
 prog:=X.prog
 w:=X.w
 K:=X.K
 mg:=X.mg
 base:=X.base
 A:=X.A
 N:=T++idx.map λi=>(X.N[i]?).getD Str.empty
 s₀:=s₂
 H₀:=H1
 env:=compEnvC sc (Ll X.env sc C) C X.env
 outer:=X.stack
 stack:=X.stack
 ex:=fp
 fn:=λx=>sc.names.lookup x==some .cell
 calm:=X.calm
 pn:=[]
 xe:=λ_ _=>False
def Mo(B:TI)(g:TG)(E:Addr->Ō->Hp->List Addr->TT)(A:Addr->Ō->Hp->List Addr->TE)(nt:Nat)(s:Db):TE:=λσ H Q=>B σ H λJ u=> ∃W:Nat->Nat->List V->Hp->Prop,(∃m,W 0 m [] u)/\ ∀i m ys j,W i m ys j->ys.length<=sizeLine/\
 ((J.stop i j/\ ∀D,j D=none->Q (.ref D) (yP j D (.lst ys)))\/
   (J.go i j/\ys.length<sizeLine/\ ∀x v,J.yld i j x v-> ∀τ:St,τ.length=nt->g x (τ++IL σ s) v λc w=>(∃o,c=o++IL σ s/\o.length=nt)/\
    ∀C a fp,E C a u fp c w λb H5=>if b=true then A C a u fp c H5 λy H6=> ∃q,q<m/\W (i+1) q (ys++[y]) H6 else∃q,q<m/\W (i+1) q ys H5))
section
def UU(I:Nat->Ō->Prop)
  (turn: ∀n s,I n s->wpAny (model prog w) A (pyNext it) (λr q=>match r with
   |none=>R (.ok .next) q
   |some v=>wpAny (model prog w) A (letOwnedTupleGo target it v) (λ_ u=>wpAny (model prog w) A (assign target env v) (λ_ D=>
     wpAny ↑6 A (forIn ifs true λc r=>if r=true then do let ok <-isTrue c env (eval c env);pure (ForInStep.yield ok)else pure (ForInStep.yield r)) (λok j=>
      if ok=true then wpAny ↑6 A (eval elt env) (λx B=>
       wpAny ↑6 A (call (.builtin "list.append") [acc,x]) (λ_ G=> ∃m,m<n/\I m G) (λ_ _=>False) B) (λ_ _=>False) j
      else∃m,m<n/\I m j) (λ_ _=>False) D) (λ_ _=>False) u) (λ_ _=>False) q) (λ_ _=>False) s)
  (n) (h:I n s):codeAny ↑6 A (.compLoop (.ListComp elt [{target,iter,ifs,0}] scope pos) 0 it acc env) R s:=by
 refine codeAny_loop rfl I (λn s J=>?_) n h;refine wpAny_noted ?_;have no: ∀{H:VP}(v:ō)(F:Ō),False->H v F:=λ_ _ z=>z.elim;refine wB (wpAny_standAt (wB (þ (turn n s J) (λr q a=>?_) (no))))
 cases r with
 |none=>exact wP a
 |some v=>
  refine wB (þ a (λ_ u o=>wB (þ o (λ_ D y=>wB (þ y (λok j b=>?_) no)) no)) no)
  cases ok with
  |false=>exact wP ⟨rfl,b⟩
  |true=>
   exact wB (wB (þ b (λx B C=>wB (þ C (λ_ G E=>wP (wP ⟨rfl,E⟩)) no)) no))
end
def Im(X:Cx)(a:N0)(t:TT):Prop:=
 ∀(pins:L0)(s:Ō)(σ:St)(H:Hp)(Q:Bool->Hp->Prop),Inv X pins σ H s->t σ H Q->
  wpAny ↑5 X.A (forIn a true λc r=>if r=true then do let ok <-isTrue c X.env (eval c X.env);pure (ForInStep.yield ok)else pure (ForInStep.yield r)) (TP X pins σ Q) X.xe s
def zCR:TT:=λ_ H Q=>Q true H
structure CompF(osc:Scope)(N:D0)(sc:Scope)(idx:Db):Prop where
 kind:sc.kind=.function
 uni: ∀y∈sc.names,sc.names.lookup y.1=some y.2
 frees: ∀y∈sc.names,y.2=.free->osc.names.lookup y.1=some .cell\/osc.names.lookup y.1=some .free
 cap: ∀i∈idx, ∃y,N[i]? =some y/\(osc.names.lookup y=some .cell\/osc.names.lookup y=some .free)/\sc.names.lookup y=some .free
def CompF.locs(F:CompF osc N sc idx): ∀y∈sc.names,y.2=.local->sc.names.lookup y.1=some .local:=λy a e=>by rw[F.uni y a,e]
def Tr(h:vS osc N sc idx=true):CompF osc N sc idx:=by
 unfold vS at h;simp only[aE,ü,decide_eq_true_eq,Bool.or_eq_true]at h;obtain⟨⟨⟨j,m⟩,c⟩,b⟩:=h;refine{j,λy a=>m y a,λy a e=>?_,λi hi=>?_}
 .rcases c y a with(z|z)|z
  .exact absurd e z
  .exact .inl z
  .exact .inr z
 .have q:=b i hi
  cases e:N[i]? with
  |none=>rw[e]at q;cases q
  |some y=>
   rw[e]at q;simp only[aE,decide_eq_true_eq,Bool.or_eq_true]at q;exact{y,rfl,q.1,q.2}
def Mr(h:(Tp sc osc).lookup x=some .cell\/(Tp sc osc).lookup x=some .free):(x,NameKind.free)∈sc.names\/(x,NameKind.cell)∈sc.names:=by
 have a: ∀b,(b=.cell\/b=.free)->(x,b)∈Tp sc osc->(x,NameKind.free)∈sc.names\/(x,NameKind.cell)∈sc.names:=by
  intro b c o;refine(mM.mp o).a λq j e=>?_;obtain ⟨n,k⟩:=q;dsimp only at e;split at e
  .rename_i m;cases e;rw[aE,aE]at m;have:=by simpa using m.1.1
   subst this;exact .inl j
  .cases e;rcases c with rfl|rfl
   .exact .inr j
   .exact .inl j
 rcases h with h|h
 .exact a _ (.inl rfl) (PySem.mem_of_lookup h)
 .exact a _ (.inr rfl) (PySem.mem_of_lookup h)
theorem SK{a:Scope}{x:Str}: ∀{l:List (Str×NameKind)},l.lookup x=some .free->(l.map λ(n,k)=>if(k==NameKind.free&&a.kind==.function&&a.names.lookup n==some .cell)then(n,NameKind.cell)else(n,k)).lookup x=some .cell\/(l.map λ(n,k)=>if(k==NameKind.free&&a.kind==.function&&a.names.lookup n==some .cell)then(n,NameKind.cell)else(n,k)).lookup x=some .free
 |[],h=>by simp at h
 |(n,k)::l,h=>by
  have j:=@SK a x l;rw[Ġ]at h;rw[ç];by_cases c:(k==NameKind.free&&a.kind==.function&&a.names.lookup n==some .cell)=true
  .dsimp only;rw[iP c,Ġ]
   cases b:x==n with
   |true=>exact .inl rfl
   |false=>rw[b]at h;exact j h
  .dsimp only;rw[iN c,Ġ]
   cases b:x==n with
   |true=>rw[b]at h;exact .inr h
   |false=>rw[b]at h;exact j h
section
variable{C:Addr}{fp:B9}
def YO(I:Inv X pins σ H1 s₂)(F:CompF X.env.scope X.N sc idx): ∀y∈sc.names,y.2=.free-> ∃c,X.env.cells.lookup y.1=some c:=
 λy a e=>I.ok.has y.1 (F.frees y a e)
def jN(I:Inv X pins σ H1 s₂)(F:CompF X.env.scope X.N sc idx)(e:(vQ X.env sc.names []).lookup x=some c):X.env.cells.lookup x=some c:=
 KM sc.names [] (YO I F) (λ_ z=>nomatch z) _ (PySem.mem_of_lookup e)
def Ts(I:Inv X pins σ H1 s₂)(F:CompF X.env.scope X.N sc idx)(a:(x,NameKind.free)∈sc.names)(e:X.env.cells.lookup x=some c):(vQ X.env sc.names []).lookup x=some c:=by obtain⟨b,h'⟩:=gF (vR sc.names [] x a);rw[h'];rw[jN I F h']at e;exact e
def Io(I:Inv X pins σ H1 s₂)(F:CompF X.env.scope X.N sc idx)(hC:s₂.heap.objs.size<=C)(hfp: ∀b∈fp,rZ X pins H1 b)(hlt: ∀b∈fp,b<s₂.heap.objs.size):(zP X sc T idx C s₂ H1 fp).Ok where
 mod:=I.ok.mod
 kind:=F.kind
 glob:=I.ok.glob
 blt:=I.ok.blt
 above:=hC
 inj:=λx y c h1 h2=>by
  have low:=λz h=>let ⟨v,q⟩:=I.cell z c (jN I F h);q.lt;rcases iT h1 with z1|z1<;>rcases iT h2 with z2|z2
  .exact PySem.name_of_addr (own_apart sc.names _) z1 z2
  .exact absurd (low y z2) (Nat.not_lt.mpr (le_of_lt (ES z1 hC)))
  .exact absurd (low x z1) (Nat.not_lt.mpr (le_of_lt (ES z2 hC)))
  .exact I.ok.inj x y c (jN I F z1) (jN I F z2)
 has:=λx hx=>by
  show∃c,(Ll X.env sc C).lookup x=some c;unfold Ll;rw[xW];rcases Mr hx with z|z
  .obtain⟨c,hc⟩:=vR sc.names [] x z;exact gF {c,û _ hc}
  .obtain⟨c,hc⟩:=CG sc.names _ z;exact gF {c,ę _ hc}
 cab:=λx c h e=>by exact le_of_lt (ES (K6 (PySem.mem_of_lookup (ĺ.mp h)) e) hC)
 hd:=I.ok.hd
 frames:=I.ok.frames
 stk:=.inl rfl
 exf:=λb hb=>{å (ä (hlt b hb) hC),λx c e=>by
  rcases iT e with z|z
  .exact ø (lt_trans (hlt b hb) (ES z hC))
  .exact(hfp b hb).2.2.2.2.1 x c (jN I F z)}
 bs:=I.bs
 bsz:=I.bsz
 noex:=λb o e hb=>by
  rcases (hfp b hb).2.2.2.1 with z|z
  .exact I.ok.noex b o e z
  .exact absurd (ä (â e) (ó I.ok.bsz.1 z)) (Į _)
 exfs:=λb hb z=>by
  rcases mC.mp (I.stkSub b z)with e|e
  .exact(hfp b hb).2.1 e
  .exact(hfp b hb).2.2.1 e
 funs:=I.stack
 frf:=I.stkFree
theorem Ce(I:Inv X pins σ H1 s₂)(F:CompF X.env.scope X.N sc idx)(D:s₂.heap.objs.size<=C)(J: ∀b∈fp,rZ X pins H1 b)(E: ∀b∈fp,b<s₂.heap.objs.size)
  (kp: ∀b o,s₂.heap.get? b=some o->s₄.heap.get? b=some o) (ho:s₄.os=s₂.os) (hg:s₄.gens=s₂.gens) (hn:s₄.heap.Ns C m) (hcl: ∀x c,(x,c)∈cellsFrom (C+1) sc.names []->s₄.heap.IsCell c none):
  Inv (zP X sc T idx C s₂ H1 fp) [] (T.map (λ_=>none)++IL σ idx) H1 s₄:=by
 have w: ∀c v,s₂.heap.IsCell c v->s₄.heap.IsCell c v:=λc v ⟨o,h1,S⟩=>{o,kp c o h1,S}
 refine{Io I F D J E,ho,by rw[hg];exact I.bare,Un.kept kp,(Z3 m hn (λi x v W s e3=>?_)),λx c e=>?_,I.hok.fresh D,λx c e=>?_,λp Q=>absurd (show p∈([]:List _)from Q) (by simp),I.hok.kept kp,?_}
 .have A:(T++idx.map λi=>(X.N[i]?).getD Str.empty)[i]? =some x:=W;by_cases hi:i<T.length
  .rw[ã (by simpa using hi),ë]at s
   cases z:T[i]? with
   |none=>rw[z]at s;cases s
   |some y=>rw[z]at s;cases s
  .rw[æ (by simpa using hi)]at s;rw[æ #[0]]at A;rw[lM]at s;unfold IL at s;rw[ë]at A s
   cases z:idx[i - T.length]? with
   |none=>rw[z]at s;cases s
   |some j=>
    rw[z]at A s;refine(F.cap j (ò z)).c λy L K H=>?_;have ex:=by have q:(X.N[j]?).getD Str.empty=x:=è A;rw[L]at q;exact q
    subst ex
    have P:σ[j]? =some (some v):=by
     have q:(σ[j]?).join=some v:=è s
     cases M:σ[j]? with
     |none=>rw[M]at q;cases q
     |some a=>rw[M]at q;have O:a=some v:=q;rw[O]
    refine I.loc.a λm0 U G=>?_;refine(G j y v L P (K.elim (λz=>.inr (.inl z)) λz=>.inr (.inr z))).a λu r l=>?_;refine Z3 u r ?_;rcases l with⟨kl,_⟩|⟨_,c,hc,q⟩
    .have B:X.env.scope.names.lookup y=some .local:=kl;rcases K with z|z<;>rw[z]at B<;>cases B
    .have Y:(y,NameKind.cell)∉sc.names:=λz=>by have:=F.uni _ z;rw[H]at this;cases this
     refine .inr {SK H,c,?_,w c _ q};show(Ll X.env sc C).lookup y=some c;rw[Tq Y];exact Ts I F (PySem.mem_of_lookup H) hc
 .rcases iT e with z|z
  .exact{none,hcl x c z}
  .obtain⟨v,q⟩:=I.cell x c (jN I F z);exact{v,w c v q}
 .rcases iT e with z|z
  .exact .inl (I.hok.fresh (le_of_lt (ES z D)))
  .exact(I.freeC x c (jN I F z)).imp id λZ=>{by show(sc.names.lookup x==some NameKind.cell)=false;rw[F.uni _ ((SI sc.names [] _ (PySem.mem_of_lookup z)).resolve_left λy=>nomatch y)];rfl,Z.2}
 .show(T.map (λ_=>_)++IL σ idx).length=(T++idx.map λi=>(X.N[i]?).getD Str.empty).length;rw[lA,lA,lM,lM,oQ]
def Cf{D:Addr}(I:Inv X pins σ H1 s₂)(F:s₂.heap.objs.size<=C)(m: ∀b∈fp,rZ X pins H1 b)
  (J:Inv (zP X sc T idx C s₂ H1 fp) [] σ1 H' s') (hs:Heap.SameBut C s'.heap h') (hD:s₂.heap.objs.size<=D) (hDC:D≠C) (eD:s'.heap.get? D=some {cls:=.type "list",data:=.seq its.toArray n}) (nD:H' D=none) (r:Vals ys its) (hz:ys.length<=sizeLine):
  Inv X pins σ (yP H' D (.lst ys)) {s' with heap:=h'}:=by
 have old: ∀b o,s₂.heap.get? b=some o->b≠C/\b≠D:=λb o e=>{å (ä (â e) F),å (ä (â e) hD)}
 have j: ∀b u,H1 b=some u->b≠D:=λb u e=>å (ä (I.hok.lt e) hD);have y:=J.free;have B:=J.base;have w: ∀b o,b≠C->s'.heap.get? b=some o->h'.get? b=some o:=λb o a e=>(hs.2 b a).trans e;refine I.call' J.os {λb o e q a s=>?_,λb o e q a s=>?_,λb o e q s=>?_,λb o e s=>?_,λb xs e=>?_,λb o u e=>?_,λb ps e=>?_} ?_ J.bare λb a=>{(m b a).2.2.2.1,(m b a).2.1,(m b a).2.2.2.2.1,(m b a).2.2.2.2.2}
 .exact w b o (old b o e).1 (B.keep b o e q a s)
 .obtain⟨sl,z⟩:=B.slot b o e q a s;exact{sl,w b _ (old b o e).1 z}
 .rw[zH (old b o e).2];exact B.free b o e q s
 .obtain⟨A,z⟩:=B.there b o e s;exact{A,w b A (old b o e).1 z}
 .rw[zH (j b _ e)];exact B.tups b xs e
 .rw[zH (j b _ e)];exact B.frzs b o u e
 .rw[zH (j b _ e)];exact B.tbls b ps e
 .intro b u e;by_cases a:b=D
  .subst a;rw[zM]at e;cases e;exact{hz,its,n,r,w b _ hDC eD}
  .rw[zH a]at e;refine(J.hok b u e).stay (λc v E q=>w c v ?_ q) (λc q=>by rw[zH (zQ q nD)];exact q) (λc xs q=>by rw[zH (zQ q nD)];exact q) λc ob xs q=>by rw[zH (zQ q nD)];exact q
   rcases E with z|z
   .rw[z];exact zQ e y
   .exact zQ z y
end
section
def QY
  (j:Q (newEnv scope ↑0 globals (cellsFrom (↑0+1) scope.names closure) qual none .none (some outer) builtinsNs) {s with heap:=pushCells (s.heap.push {cls:=.type "dict",data:=.dict #[]}) scope.names}):
  wpAny M A (newFunctionEnv scope globals closure [] qual none .none (some outer)) Q E s:=by
 simp only[newFunctionEnv,Option.isSome_some,if_true];refine wB (wpAny_alloc ?_);refine wB (wpAny_layCells _ (λc kind a=>by cases b:kind==NameKind.cell<;>simp[b]) _ _ _ _ ?_);refine qq (show({s with heap:=s.heap.push {cls:=.type "dict",data:=.dict #[]}}:Ō).heap.objs.size=↑0+1 from Ģ ..) ?_;exact wB (wP (wP j))
theorem YQ(T)(idx)
  (hi:zBY C X tg iter wi) (hCx: ∀c j L fp pins σ,Inv X pins σ L j->C (zP X sc T idx c j L fp)) (hB:vS X.env.scope X.N sc idx=true)
  (hg: ∀C j H1 fp,PG (zP X sc T idx C j H1 fp) tg g)
  (hc: ∀C j H1 fp,Im (zP X sc T idx C j H1 fp) ifs (tc C j H1 fp))
  (he: ∀C j H1 fp,PE (zP X sc T idx C j H1 fp) elt (te C j H1 fp))
  (hs: ∀x,foldedSetIterable iter X.env x=pure x:=by intro _;rfl)
         (I:↑1) (h:Mo wi g tc te T.length idx σ H Q)
  (fin: ∀ D C  O  H'  r ,(∀h',Heap.SameBut C O.heap h'->Inv X pins σ H' {O with heap:=h'})->rZ X pins H' C->(∃m,O.heap.Ns C m)->Q (.ref D) H'->
   compPost ↑5 X.A X.xe use Q' (.ref D) C (.ok r) O):
  wpAny ↑5 X.A (comprehension ↑14 sc X.env (firstIterPos [{tg,iter,ifs,0}] pos) (newList []) false (eval iter X.env) use) Q' X.xe s:=by
 have cf:=Tr hB;refine wpAny_comprehension_free rfl hs (QX (YO I cf)) cf.kind cf.locs ?_;refine xV (hi pins s σ H _ I h) λv s1 h1=>xV h1 λa7 a h2=>?_;obtain⟨it,fp,tn,J,L,e,U,P,aj,f2,W,⟨m0,w0⟩,ar⟩:=h2;subst e;have ag: ∀b∈fp,b<a.heap.objs.size:=λb E=>let ⟨o,e,_⟩:=P.obj _ _ aj b E;â e;refine Ā (QY ?_);dsimp only;generalize aa:a.heap.push {cls:=.type "list",dict:=none,data:=.seq ([]:A0).toArray}=HH;generalize ai:pushCells _ sc.names=h₁;have hC:HH.objs.size=a.heap.objs.size+1:=by rw[<-aa,Ģ]
 have Y:a.heap.objs.size≠HH.objs.size:=by rw[hC];exact å (Nat.lt_succ_self _)
 have G:a.heap.objs.size<=HH.objs.size:=by rw[hC];exact le_succ _
 have ax: ∀b o,HH.get? b=some o->h₁.get? b=some o:=λb o e=>ai▸pushCells_keeps _ _ b o (hP0 _ e);have old: ∀b o,a.heap.get? b=some o->h₁.get? b=some o:=λb o e=>ax b o (aa▸hP0 _ e);have a5: ∀x c,(x,c)∈cellsFrom (HH.objs.size+1) sc.names []->h₁.IsCell c none:=λx c hm=>by have ok:=cellsFrom_ok sc.names (HH.push {cls:=.type "dict",data:=.dict #[]}) 0 [] {λ_ _ hm=>(nomatch hm),List.Pairwise.nil} (zero_le _);rw[Ģ,ai]at ok;exact(ok.empty x c hm).1
 have cD: ∀x c,(Ll X.env sc HH.objs.size).lookup x=some c->c≠a.heap.objs.size:=λx c e=>by
  rcases iT e with z|z
  .exact ø (ES z G)
  .obtain⟨v,q⟩:=U.cell x c (jN U cf z);exact å q.lt
 have Z: ∀O:Ō,O={a with heap:=h₁}->
   codeAny ↑5 X.A (.compLoop ↑14 0 (.ref it) (.ref a.heap.objs.size) (compEnvC sc (Ll X.env sc HH.objs.size) HH.objs.size X.env))
    (compPost ↑5 X.A X.xe use Q' (.ref a.heap.objs.size) HH.objs.size) O:=by
  rintro O rfl
  have J0:Inv _ [] (T.map (λ_=>none)++IL σ idx) L {a with heap:=h₁}:=
   Ce U cf G f2 ag old rfl rfl (ai▸(Heap.Ns.new HH (.type "dict")).keeps (pushCells_keeps _ _)) a5
  refine UU (λk s'=> ∃(i:Nat)(ys:List V)(B:A0)(n:Nat)(H':Hp)(τ:St),Inv _ [] (τ++IL σ idx) H' s'/\τ.length=T.length/\tn i s'.heap/\(∀b∈fp,H' b=none)/\
   s'.heap.get? a.heap.objs.size=some {cls:=.type "list",data:=.seq B.toArray n}/\H' a.heap.objs.size=none/\Vals ys B/\W i k ys H') ?_ m0
   (XV 0 ([]) ([]) 0 L _ {J0,(by rw[lM]),P.keep _ _ _ aj λb _ o e=>old b o e,(λb E=>(f2 b E).1),ax _ _ (aa▸á _ rfl),U.hok.fresh (à _),.nil,w0})
  rintro k s3 ⟨i,ys,B,n,H3,τ,I3,az,ao,au,a0,ae,r3,w3⟩;obtain⟨hz,a4⟩:=ar i k ys H3 w3;have aw:a.heap.objs.size∉(zP X sc T idx HH.objs.size a L fp).fs:=λz=>by obtain⟨_,o,ho,_⟩:=U.stack.mem z;exact absurd (â ho) (Į _)
  have av: ∀{H':Hp}{s':Ō},s'.heap.get? a.heap.objs.size=some {cls:=.type "list",data:=.seq B.toArray n}->H' a.heap.objs.size=none->
    ∀p∈[(a.heap.objs.size,_)],s'.heap.get? p.1=some p.2/\H' p.1=none/\p.1≠(zP X sc T idx HH.objs.size a L fp).env.locals/\p.1∉(zP X sc T idx HH.objs.size a L fp).fs/\ ∀v,p.2.data≠.cell v:=
   λ{H' s'} e1 e2 p M=>by
    have ep:p=(a.heap.objs.size,{cls:=.type "list",data:=.seq B.toArray n}):=by simpa using M
    subst ep;exact{e1,e2,Y,aw,λv z=>by cases z}
  have P3:Inv _ [_] (τ++IL σ idx) H3 s3:=I3.pins_of (av a0 ae)
  have K: ∀{H':Hp},(∀b∈fp,H' b=none)-> ∀b∈fp,rZ _ [_] H' b:=λ{H'} hn b E=>by
   have ak:=ag b E;refine{hn b E,å (ä ak G),I3.ok.exfs b E,.inl E,λx c e=>?_,λp M=>?_}
   .rcases iT e with z|z
    .exact ø (lt_trans ak (ES z G))
    .exact(f2 b E).2.2.2.2.1 x c (jN U cf z)
   have ep:p=(a.heap.objs.size,({cls:=.type "list",data:=.seq B.toArray n}:Obj)):=by simpa [zP]using M
   subst ep;exact ø ak
  rcases a4 with⟨stop,q⟩|⟨go,hl2,step⟩
  .refine xV (P.done (zP X sc T idx HH.objs.size a L fp) rfl rfl rfl (hCx _ _ _ _ _ _ U) i _ s3 _ H3 (λ_ _=>False) P3 (K au) ao stop) λr O ⟨hr,I4⟩=>?_;subst hr;refine(id I4.loc).a λm hn _=>?_;exact fin _ _ O _ _ (λh' ay=>Cf U G f2 (I4.pins_of (λp M=>nomatch M)) ay (à _) Y ((I4.pin (a.heap.objs.size,{cls:=.type "list",data:=.seq B.toArray n}) (by simp)).1) ae r3 hz) (U.fpOk G (by rw[zH (Ne.symm Y)];exact I4.free)) ⟨m,hn⟩ (q _ ae)
  .refine xV (P.item (zP X sc T idx HH.objs.size a L fp) rfl rfl rfl (hCx _ _ _ _ _ _ U) i _ s3 _ H3 (λ_ _=>False) P3 (K au) ao go) λr O ⟨u,hr,h4⟩=>?_;subst hr;refine xV h4 λ_ s5 ⟨x,H5,I5,r5,y5,S,a3⟩=>?_;refine xV (hg HH.objs.size a L fp _ s5 _ H5 x u _ (I5.pinned (K a3) (P.obj _ _ S)) r5 (step x H5 y5 τ az)) λ_ s6 ⟨a6,H6,I6,⟨ah,e6,l6⟩,q6⟩=>?_;subst e6;refine xV (hc HH.objs.size a L fp _ s6 _ H6 _ I6 (q6 HH.objs.size a fp)) λok s7 ⟨H7,I7,q7⟩=>?_
   have mD:(a.heap.objs.size,({cls:=.type "list",data:=.seq B.toArray n}:Obj))∈(zP X sc T idx HH.objs.size a L fp).pn++([(a.heap.objs.size,{cls:=.type "list",data:=.seq B.toArray n})]++EO fp s5.heap):=
    û _ (ę _ (by simp))
   have mF: ∀b∈fp, ∀o,s5.heap.get? b=some o->(b,o)∈(zP X sc T idx HH.objs.size a L fp).pn++([(a.heap.objs.size,{cls:=.type "list",data:=.seq B.toArray n})]++EO fp s5.heap):=λb E o e=>
    û _ (û _ (EQ E e))
   cases ok with
   |false=>
    rw[iN xF0]at q7 ⊢;obtain⟨m',ab,w7⟩:=q7;refine{m',ab,i+1,ys,B,n,H7,ah,I7.pins_of (λp M=>nomatch M),l6,P.keep _ _ _ S λb E o e=>(I7.pin _ (mF b E o e)).1,λb E=>?_,(I7.pin _ mD).1,(I7.pin _ mD).2.1,r3,w7};obtain⟨o,e,d⟩:=P.obj _ _ S b E;exact(I7.pin _ (mF b E o e)).2.1
   |true=>
    rw[iP rfl]at q7 ⊢;refine xV (he HH.objs.size a L fp _ s7 _ H7 _ I7 q7) λy s8 ⟨yv,H8,I8,r8,m',ab,w8⟩=>?_;have af:=(I8.pin _ mD).1;have aq:=(I8.pin _ mD).2.1;have hl:=r3.length;have q:=PySem.IsL.update af (λz=>z.push y);rw[show B.toArray.push y=(B++[y]).toArray by simp]at q;refine ģ PySem.F.slot_list_append {_,af,rfl} PySem.F.entry_list_append (PySem.F.args_list_append_2 _ _) (PySem.list_append a.heap.objs.size B.toArray n y (by rw[sA];lia)) {af,?_};have I9:Inv _ [] (ah++IL σ idx) H8 s8:=I8.pins_of (λp M=>nomatch M);have up: ∀b o,b≠a.heap.objs.size->s8.heap.get? b=some o->(s8.heap.update a.heap.objs.size (Obj.mapSeq λz=>z.push y)).get? b=some o:=λb o E e=>(õ s8.heap _ (Ne.symm E)).trans e;refine{m',ab,i+1,_,_,_,H8,ah,I9.turned up aq Y (.inr (à _)) cD (λp M=>nomatch M),l6,?_,λb E=>?_,q,aq,r3.append (.cons r8 .nil),w8}
    .exact P.keep _ _ _ S λb E o e=>up b o (å (ag b E)) (I8.pin _ (mF b E o e)).1
    .obtain⟨o,e,d⟩:=P.obj _ _ S b E;exact(I8.pin _ (mF b E o e)).2.1
 exact codeAny_compStart_list (Z _ rfl) (P.self X.A 0 _ _ _ (P.keep _ _ _ aj λb _ o e=>old b o e) (Z _ rfl))
def Tt(T)(idx)
  (hi:zBY C X tg iter wi) (hCx: ∀c j v fp pins σ,Inv X pins σ v j->C (zP X sc T idx c j v fp)) (hB:vS X.env.scope X.N sc idx=true)
  (hg: ∀C j u fp,PG (zP X sc T idx C j u fp) tg g)
  (hc: ∀C j u fp,Im (zP X sc T idx C j u fp) ifs (tc C j u fp))
  (he: ∀C j u fp,PE (zP X sc T idx C j u fp) elt (te C j u fp))
  (hs: ∀x,foldedSetIterable iter X.env x=pure x:=by intro _;rfl):
  PE X ↑14 (Mo wi g tc te T.length idx):=by
 rw[22];exact YQ T idx hi hCx hB hg hc he hs I h λD C o H' r J _ ⟨m,b⟩ q=>(Z3 m b (λh' a=>(Z2 (.ref D) H' (J h' a) rfl q)))
end
noncomputable def pU(x:Db):Str:=⟨x.toArray⟩
def nO(x):(pU x).length=x.length:=by simp[pU,Str.length]
def Tu(x):(pU x).cps.toList=x:=by simp[pU]
def MD(h:pU x=pU y):x=y:=by have:=congrArg (λs=>s.cps.toList) h;simpa [pU]using this
def Tv(x y):pU x++pU y=pU (x++y):=by show Str.append _ _=_;simp[Str.append,pU]
theorem Tw(c):({#[c]})=pU [c]:=rfl
def dM{α:Type}(xs:List α)(lo hi:M0):List α:=(xs.drop (HT.sIx ↑7 0 lo)).take (HT.sIx ↑7 ↑7 hi - HT.sIx ↑7 0 lo)
theorem strIdx(lo hi)(n):Builtin.Str.strSliceIndices lo hi 1 n=(List.range (HT.sIx n n hi - HT.sIx n 0 lo)).map (HT.sIx n 0 lo+·):=by
 have a:(match lo with |none=>(if(1:Int)>0 then(0:Int)else(n:Int) - 1)|some i=>if(1:Int)>0 then max 0 (min (if i<0 then i+(n:Int)else i) (n:Int))else max (-1) (min (if i<0 then i+(n:Int)else i) ((n:Int) - 1)))=((HT.sIx n 0 lo:Nat):Int):=by
  cases lo with
  |none=>simp[HT.sIx]
  |some i=>
   simp only[HT.sIx,show(1:Int)>0 by decide,if_true];by_cases h:i<0
   .simp only[h,if_true];lia
   .simp only[h,iF];lia
 have b:(match hi with |none=>(if(1:Int)>0 then(n:Int)else -1)|some i=>if(1:Int)>0 then max 0 (min (if i<0 then i+(n:Int)else i) (n:Int))else max (-1) (min (if i<0 then i+(n:Int)else i) ((n:Int) - 1)))=((HT.sIx n n hi:Nat):Int):=by
  cases hi with
  |none=>simp[HT.sIx]
  |some i=>
   simp only[HT.sIx,show(1:Int)>0 by decide,if_true];by_cases h:i<0
   .simp only[h,if_true];lia
   .simp only[h,iF];lia
 rw[<-sliceRange_one];unfold Builtin.Str.strSliceIndices;rw[<-a, <-b];cases lo<;>cases hi<;>rfl
theorem Ip(x)(lo hi):Txt.slice (pU x) lo hi=pU (dM x lo hi):=by
 unfold Txt.slice;rw[strIdx,nO];have c:=by have:=pick_run (pU x).cps (HT.sIx x.length 0 lo) (HT.sIx x.length x.length hi - HT.sIx x.length 0 lo);exact this
 rw[c];split
 .rename_i a;rw[aE]at a;have b:=by simpa using a.2
  have m:HT.sIx x.length x.length hi<=x.length:=HT.sIx_le _ _ (à _) _;have j:HT.sIx x.length 0 lo<=x.length:=HT.sIx_le _ _ (zero_le _) _;have e:HT.sIx x.length 0 lo=0:=by lia
  unfold dM;rw[b,e];simp
 .rfl
section
def rSlS:V->Option Int->Option Int->Hp->VK->Prop:=λx lo hi H Q=> ∃a,x=.str (pU a)/\a.length<=sizeLine/\Q (.str (pU (dM a lo hi))) H
def K7:SlR X rSlS:=by
 intro pins s σ H x v D E lo hi sl Q I B hs A w h;refine h.c λy F C q=>?_;subst F;obtain⟨t,rfl⟩:=B;have c:(Txt.slice (pU y) lo hi).length<=sizeLine:=ó (Txt.slice_le _ _ _) (by rw[nO];exact C);rw[<-Ip]at q;refine Z2 ("str") _ slot_str_getitem.lookup (typeIs_str _ _ _) ?_;obtain⟨o,b,a,hd⟩:=hs
 cases A with
 |none=>
  cases w with
  |none=>exact Ń (l:=none) (u:=none) (st:=none) (Z0 o b a hd) rfl (post_val_or_str {c,λm k=>(Z2 (.str _) H (I.tok _) {_,rfl} q)})
  |int j uj=>exact Ń (l:=none) (u:=some (j,uj)) (st:=none) ⟨o,b,a,hd⟩ rfl (post_val_or_str {c,λm k=>(Z2 (.str _) H (I.tok _) {_,rfl} q)})
 |int i ui=>
  cases w with
  |none=>exact Ń (l:=some (i,ui)) (u:=none) (st:=none) (Z0 o b a hd) rfl (post_val_or_str {c,λm k=>(Z2 (.str _) H (I.tok _) {_,rfl} q)})
  |int j uj=>exact Ń (l:=some (i,ui)) (u:=some (j,uj)) (st:=none) (Z0 o b a hd) rfl (post_val_or_str {c,λm k=>(Z2 (.str _) H (I.tok _) {_,rfl} q)})
noncomputable def UV(cs:Db)(k:Int):List Nat:=(List.replicate k.toNat cs).flatten
theorem IM(cs): ∀ k (j:Db),List.foldl (λq m=>q++m) j.toArray (List.replicate k cs.toArray)=(j++(List.replicate k cs).flatten).toArray
 |0,j=>by simp
 |k+1,j=>by rw[Ŋ,Ŋ,flatten_cons, <-aA, <-IM cs k _];simp
theorem Cg:OpR X (binaryOp .Mult) (λx y H Q=> ∃cs k,x=.str (pU cs)/\y=.int k/\0<=k/\k<1000/\cs.length<=1000/\Q (.str (pU (UV cs k))) H):=by
 intro pins s σ H x y v u Q I E w h;obtain⟨cs,k,rfl,rfl,J,L,D,q⟩:=h;obtain⟨t,rfl⟩:=E;obtain⟨G,rfl⟩:=w;have hs:=ý;have j:cs.length * k.toNat<=1000 * 1000:=mul_le_mul D #[0];refine PySem.P.mul_str (by rw[dF0 #[0],dF0 #[0]];rfl) (λK _=>?_) (λ_ _=>?_) ?_
 .rw[nO]
  have:(1000:Int)<=(2 ^ 63 - 1) / k:=by
   rw[Int.le_ediv_iff_mul_le #[0]]
   lia
  lia
 .rw[nO];exact dF0 #[0]
 .have made: ∀(z:Str),z=pU _->z.length<=sizeLine->(Made.str z).post (EP X pins σ Q) s:=λz C F=>{F,by rw[C];exact(Z2 (.str _) H (I.tok _) {_,rfl} q)}
  have b:(UV cs k).length=k.toNat * cs.length:=by unfold UV;rw[len_rep]
  by_cases o:k<1
  .rw[iP o];have B:k.toNat=0:=by lia
   refine made _ ?_ ↑15;unfold UV;rw[B];rfl
  .rw[iN o];by_cases a:(k==1 || (pU cs).length==0)=true
   .rw[iP a];refine Z2 (.str _) H I {_,rfl} ?_
    have:UV cs k=cs:=by
     unfold UV;rw[Bool.or_eq_true]at a;rcases a with a|a
     .have:=by simpa using a
      subst this;simp
     .rw[nO]at a;have:cs=[]:=by cases cs with |nil=>rfl|cons _ _=>simp at a
      subst this;simp
    rw[this]at q;exact q
   .rw[iN a];refine made _ ?_ ?_
    .unfold UV pU;have:=IM cs k.toNat [];rw[ī]at this;exact congrArg Str.mk this
    .have A:(List.foldl (λc m=>c++m) #[] (List.replicate k.toNat (pU cs).cps))=(UV cs k).toArray:=by have:=IM cs k.toNat [];rw[ī]at this;exact this
     show(List.foldl (λc m=>c++m) #[] _).size<=sizeLine;rw[A,sA,b,Nat.mul_comm]
     lia
def UW:CallR X (.builtin "all") (λxs H Q=> ∃(a:Addr)(bs:L1),xs=[.ref a]/\SqL X.K H a (bs.map V.bl)/\X.calm=true/\Q (.bl (bs.all id)) H):=by
 intro pins s σ H xs U Q I r h;refine h.l λa bs ac L M q=>?_;subst ac;refine(vals1 r).a λu am F=>?_;subst am;subst F;refine(I.list L).c λw E B Y=>?_;have c:w.length=bs.length:=by rw[<-E.length,lM]
 refine PySem.call_all_walk (ĭ B.isList ?_);have J:a≠s.heap.objs.size:=by refine B.isList.a λo N _=>?_;exact å (â N)
 have I1: ∀(h':Heap)(A:Nat),(∀b o,b∉[↑0]->(s.heap.push {cls:=.type "list_iterator",data:=.fields #[.ref a,.int 0 0]}).get? b=some o->h'.get? b=some o)->Inv X pins σ H {s with heap:=h',toks:=A}:=λh' A k=>
  I.kept λb o e=>k b o (by simpa using å (â e)) (hP0 _ e)
 refine Yg _ _ _ _ _ _ (λi=>bs.getD i false) {rfl,PySem.Walks.list (by first |exact I.ok.hd M|exact _) _ a J w.toArray,{(Z0 _ (á _ rfl) rfl rfl),B.isList.at λo e=>hP0 _ e},?_,(λh' A k=>?_)}
 .intro i v T S W P D;have m:=by simpa using P
  have hi:i<bs.length:=by rw[<-c];exact(gS.mp m).1
  have G:(bs.map V.bl)[i]? =some (V.bl (bs.getD i false)):=by simp[hi]
  refine(E.get G).a λZ j C=>?_;rw[m]at j;cases j;subst C;exact Ċ D
 .refine(Z2 _ H (I1 h' A k) ?_ q);congr 1;refine qq sA (qq c ?_)
  have: ∀(l:L1),(List.range l.length).all (λi=>l.getD i false)=l.all id:=by
   intro l;rw[Bool.eq_iff_iff,ü,ü];constructor
   .intro h x O;obtain⟨i,hi,rfl⟩:=getElem_of_mem O;have:=h i (ē.mpr hi);simpa [đ,hi]using this
   .intro h i hi;have y:=ē.mp hi;have:=h l[i] (Ľ y);simpa [đ,y]using this
  exact this bs
end
section
def PU(X:Cx)(e:Expr)(t:TE):Prop:= ∀(i:Nat)(x:Str)(a pos:Pos),X.N.Nodup->X.N[i]? =some x->Loc X.env.scope x->(X.fn x=true\/X.env.scope.names.lookup x=some .local)->
 swapsWith e (some (.Name x a)) pos.line X.env=pure true->PS X (.Assign [.Name x a] e pos) (F3 t (Lw i))
def Tx(T)(idx)
  (hi:zBY C X tg iter wi) (hCx: ∀c j J fp pins σ,Inv X pins σ J j->C (zP X sc T idx c j J fp)) (hB:vS X.env.scope X.N sc idx=true)
  (hg: ∀C j u fp,PG (zP X sc T idx C j u fp) tg g)
  (hc: ∀C j u fp,Im (zP X sc T idx C j u fp) ifs (tc C j u fp))
  (he: ∀C j u fp,PE (zP X sc T idx C j u fp) elt (te C j u fp))
  (hs: ∀x,foldedSetIterable iter X.env x=pure x:=by intro _;rfl):
  PU X ↑14 (Mo wi g tc te T.length idx):=by
 intro i x L K Y E Z Q A pins s σ H D I h;rw[exec_Assign_Name_used _ _ _ _ A];refine wB (wpAny_standAt (wB ?_));refine wB (xV (YQ T idx hi hCx hB hg hc he hs I h λP C O H' _ J4 v G q=>?_) λ_ W S=>wP (wP S));refine wpAny_assign_Name (RX (J4 O.heap (Heap.SameBut.refl _ _)) Y E Z (show RelV (.ref P) _ from rfl) (λW U ⟨a,B,y⟩=>?_) Q);obtain⟨m,G⟩:=G
 have F:C≠a:=by
  rintro rfl;rcases y with y|y
  .exact v.2.1 y
  .exact v.2.2.2.2.1 x _ y rfl
 refine Z3 m (G.sameBut B F) (λh' w=>(ZX _ H' ?_ q));exact U.turned (λb o M e=>(w.2 b M).trans e) v.1 v.2.1 v.2.2.2.1 v.2.2.2.2.1 v.2.2.2.2.2
end
end L2
namespace L2
namespace M
open PySem PySem.Spec PyProof.Rows
def Mu(m:RelV y u)(j:RelV x v)(q:rD y=true)(o:rD x=true):SeqAt.RcAt A s u v (Tl y x)/\SeqAt.RcNeAt A s u v (!Tl y x):=by
 cases y with
 |non=>
  cases m
  cases x with
  |non=>subst j;exact{.none_none,.none_none}
  |bl b=>subst j;exact{.none_bool b,.none_bool b}
  |int b=>obtain⟨t,rfl⟩:=j;exact{.none_int b t,.none_int b t}
  |str b=>obtain⟨t,rfl⟩:=j;exact{.none_str b t,.none_str b t}
  |_=>cases o
 |bl a=>
  subst m
  cases x with
  |non=>subst j;exact{.bool_none a,.bool_none a}
  |bl b=>subst j;exact{.bool_bool a b,.bool_bool a b}
  |int b=>obtain⟨t,rfl⟩:=j;exact{.bool_int a b t,.bool_int a b t}
  |str b=>obtain⟨t,rfl⟩:=j;exact{.bool_str a b t,.bool_str a b t}
  |_=>cases o
 |int a=>
  obtain⟨c,rfl⟩:=m
  cases x with
  |non=>subst j;exact{.int_none a c,.int_none a c}
  |bl b=>subst j;exact{.int_bool a c b,.int_bool a c b}
  |int b=>obtain⟨t,rfl⟩:=j;exact{.int_int a c b t,.int_int a c b t}
  |str b=>obtain⟨t,rfl⟩:=j;exact{.int_str a c b t,.int_str a c b t}
  |_=>cases o
 |str a=>
  obtain⟨c,rfl⟩:=m
  cases x with
  |non=>subst j;exact{.str_none a c,.str_none a c}
  |bl b=>subst j;exact{.str_bool a c b,.str_bool a c b}
  |int b=>obtain⟨t,rfl⟩:=j;exact{.str_int a c b t,.str_int a c b t}
  |str b=>obtain⟨t,rfl⟩:=j;exact{.str_str a c b t,.str_str a c b t}
  |_=>cases o
 |_=>cases q
abbrev Six(A:Around)(s:Shared)(u v:Value):Prop:=SeqAt.EqAt A s u v false/\SeqAt.EqAt A s v u false/\SeqAt.RcAt A s u v false/\SeqAt.RcAt A s v u false/\SeqAt.RcNeAt A s u v true/\SeqAt.RcNeAt A s v u true
def SN(j:RelV x v)(m:rD x=true)(c:s.heap.IsList l items)(a:A.units<cLine):Six A s (.ref l) v:=by
 cases x with
 |non=>subst j;exact{.list_none c a,.none_list c a,.list_none c a,.none_list c a,.list_none c a,.none_list c a}
 |bl b=>subst j;exact{.list_bool b c a,.bool_list b c a,.list_bool b c a,.bool_list b c a,.list_bool b c a,.bool_list b c a}
 |int b=>obtain⟨t,rfl⟩:=j;exact{.list_int b t c a,.int_list b t c a,.list_int b t c a,.int_list b t c a,.list_int b t c a,.int_list b t c a}
 |str b=>obtain⟨t,rfl⟩:=j;exact{.list_str b t c a,.str_list b t c a,.list_str b t c a,.str_list b t c a,.list_str b t c a,.str_list b t c a}
 |_=>cases m
def KN(j:RelV x v)(m:rD x=true)(c:s.heap.IsTuple l items)(a:A.units<cLine):Six A s (.ref l) v:=by
 cases x with
 |non=>subst j;exact{.tuple_none c a,.none_tuple c a,.tuple_none c a,.none_tuple c a,.tuple_none c a,.none_tuple c a}
 |bl b=>subst j;exact{.tuple_bool b c a,.bool_tuple b c a,.tuple_bool b c a,.bool_tuple b c a,.tuple_bool b c a,.bool_tuple b c a}
 |int b=>obtain⟨t,rfl⟩:=j;exact{.tuple_int b t c a,.int_tuple b t c a,.tuple_int b t c a,.int_tuple b t c a,.tuple_int b t c a,.int_tuple b t c a}
 |str b=>obtain⟨t,rfl⟩:=j;exact{.tuple_str b t c a,.str_tuple b t c a,.tuple_str b t c a,.str_tuple b t c a,.tuple_str b t c a,.str_tuple b t c a}
 |_=>cases m
def Mv(h:rD y=true):Tl y y=true:=by cases y<;>first |rfl|(simp[Tl];done)|exact absurd h xF0
abbrev K3:=Option Key
inductive NK where
 |key (k:K3)|tup (ks:List NK)
instance:DecidableEq NK:=λ_ _=>Classical.propDecidable _
section
variable(knd:KeyKind prog w K3)
mutual
def QZ(h:Heap):NK->ō->Prop
 |.key k,v=>knd.is k v=true
 |.tup ks,v=> ∃a o j n,v=.ref a/\h.get? a=some o/\o.cls=.type "tuple"/\o.data=.seq j n/\vT h ks j.toList
def vT(h:Heap):List NK->List ō->Prop
 |[],vs=>vs=[]
 |k::ks,vs=> ∃v r,vs=v::r/\QZ h k v/\vT h ks r
end
mutual
def KO:NK->Int
 |.key k=>knd.hash k
 |.tup ks=>reduceHash (Builtin.Tuple.tupleHashOf (NN ks))
def NN:List NK->List Int
 |[]=>[]
 |k::ks=>KO k::NN ks
end
mutual
def NO:NK->Nat
 |.key _=>1
 |.tup ks=>dN ks+1
def dN:List NK->Nat
 |[]=>0
 |k::ks=>NO k+dN ks
end
mutual
def sC:NK->Nat
 |.key _=>0
 |.tup ks=>DW ks+1
def DW:List NK->Nat
 |[]=>0
 |k::ks=>max (sC k) (DW ks)
end
variable{knd}
theorem wD:QZ knd h (.key k) v↔knd.is k v=true:=by unfold QZ;exact Iff.rfl
def xR:QZ knd h (.tup ks) v↔ ∃a o j n,v=.ref a/\h.get? a=some o/\o.cls=.type "tuple"/\o.data=.seq j n/\vT knd h ks j.toList:=by
 conv=>lhs;unfold QZ
theorem wN:vT knd h [] vs↔vs=[]:=by unfold vT;exact Iff.rfl
def yL:vT knd h (k::ks) vs↔ ∃v r,vs=v::r/\QZ knd h k v/\vT knd h ks r:=by
 conv=>lhs;unfold vT
mutual
theorem UX{h:Heap}: ∀{x y:NK}{v:ō},QZ knd h x v->QZ knd h y v->x=y
 |.key k,.key k',v,hx,hy=>by rw[knd.inj v k k' (wD.mp hx) (wD.mp hy)]
 |.key k,.tup ks,v,hx,hy=>by obtain⟨a,o,j,n,rfl,_⟩:=xR.mp hy;have:=knd.byValue _ _ (wD.mp hx);simp[carriedByValue]at this
 |.tup ks,.key k,v,hx,hy=>by obtain⟨a,o,j,n,rfl,_⟩:=xR.mp hx;have:=knd.byValue _ _ (wD.mp hy);simp[carriedByValue]at this
 |.tup ks,.tup ks',v,hx,hy=>by
  obtain⟨a,o,j,n,e,u,_,hd,hi⟩:=xR.mp hx;obtain⟨B,w,c,A,s,q,_,b,m⟩:=xR.mp hy;rw[e]at s;cases s;obtain rfl:o=w:=è (u.symm.trans q);rw[hd]at b;injection b with h1 _
  subst h1;rw[YR hi m]
theorem YR{h:Heap}: ∀{xs ys:List NK}{vs:A0},vT knd h xs vs->vT knd h ys vs->xs=ys
 |[],[],_,_,_=>rfl
 |[],y::ys,vs,hx,hy=>by obtain⟨v,r,e,_⟩:=yL.mp hy;rw[wN.mp hx]at e;cases e
 |x::xs,[],vs,hx,hy=>by obtain⟨v,r,e,_⟩:=yL.mp hx;rw[wN.mp hy]at e;cases e
 |x::xs,y::ys,vs,hx,hy=>by obtain⟨v,r,e,j,m⟩:=yL.mp hx;obtain⟨q,o,c,a,b⟩:=yL.mp hy;rw[e]at c;cases c;rw[UX j a,YR m b]
end
mutual
theorem NP{h h':Heap}(m: ∀a o j n,h.get? a=some o->o.data=.seq j n->h'.get? a=some o): ∀{x:NK}{v:ō},QZ knd h x v->QZ knd h' x v
 |.key k,v,hx=>wD.mpr (wD.mp hx)
 |.tup ks,v,hx=>by obtain⟨a,o,j,n,e,u,q,hd,hi⟩:=xR.mp hx;exact xR.mpr {a,o,j,n,e,m a o j n u hd,q,hd,SO m hi}
theorem SO{h h':Heap}(m: ∀a o j n,h.get? a=some o->o.data=.seq j n->h'.get? a=some o): ∀{xs:List NK}{vs:A0},vT knd h xs vs->vT knd h' xs vs
 |[],vs,hx=>wN.mpr (wN.mp hx)
 |x::xs,vs,hx=>by obtain⟨v,r,e,q,u⟩:=yL.mp hx;exact yL.mpr {v,r,e,NP m q,SO m u}
end
theorem NQ: ∀ks:List NK,NN knd ks=ks.map (KO knd)
 |[]=>by unfold NN;rfl
 |k::ks=>by unfold NN;rw[NQ ks];rfl
def NS:dN []=0:=by rw[dN]
def vU(k)(ks):dN (k::ks)=NO k+dN ks:=by rw[dN]
def sD(k)(ks):DW (k::ks)=max (sC k) (DW ks):=by rw[DW]
def iU(ks):sC (.tup ks)=DW ks+1:=by rw[sC]
theorem DX: ∀ xs ys ,dN (xs++ys)=dN xs+dN ys
 |[],ys=>by rw[NS,ī,Nat.zero_add]
 |x::xs,ys=>by rw[List.cons_append,vU,vU,DX xs ys];lia
def GO{s:Ō}(h:QZ knd s.heap (.tup ks) (.ref a)):s.TypeIs (.ref a) "tuple":=by refine(xR.mp h).j λj o _ n k=>k.g λe c b _=>?_;cases e;exact Z3 o c b
theorem YS: ∀ n {A}{E}{s}{k}{v}{Q},sC k<=n->A.units+n<cLine->QZ knd s.heap k v->Q (KO knd k) {s with toks:=s.toks+NO k}->wpAny ↑6 A (pyHash v) Q E s
 |n,A,E,s,.key k,v,Q,_,_,j,h=>knd.pyHash (wD.mp j) (by rw[NO]at h;exact h)
 |0,A,E,s,.tup ks,v,Q,hd,_,_,_=>by rw[iU]at hd;lia
 |n+1,A,E,s,.tup ks,v,Q,hdep,hu,j,h=>by
  refine(xR.mp j).o λa o _ m M I J hd hi=>?_;subst M;have y:s.TypeIs (.ref a) "tuple":=(Z3 o I J)
  rw[iU]at hdep
  have D:=by
   have: ∀ks:List NK,DW ks<=n-> ∀k∈ks,sC k<=n:=by
    intro ks
    induction ks with
    |nil=>intro _ k j;simp at j
    |cons x xs ih=>
     intro H k j;rw[sD]at H;rcases mC.mp j with rfl|j
     .lia
     .exact ih #[0] k j
   exact this ks #[0]
  rw[KO,NO,NQ]at h
  first |refine wB (wpAny_cRoomFor_or (.inr #[0]) ?_)|skip
  refine wB (Ň y F.slot_tuple_hash.lookup ?_);refine wB (Ň y F.slot_tuple_hash.lookup ?_);refine wB (wpAny_callSpecialIfBoundUnlessNone?_slot y F.slot_tuple_hash (é F.slot_tuple_hash y F.entry_tuple_hash ?_ (F.args_tuple_hash_1 _)));show wpAny _ _ (Builtin.Tuple.tupleItemsOf _ >>= _) _ _ s;refine wB (wpAny_tupleItemsOf I hd ?_);refine wB ?_;rw[<-Array.forIn_toList]
  refine wpAny_forIn_list _
   (λrest (b:Array Int) G=> ∃c left,ks=c++left/\vT knd s.heap left rest/\b.toList=c.map (KO knd)/\G={s with toks:=s.toks+dN c})
   _ ?_ ?_ _ _ (Zo ([]) ks rfl hi rfl (by rw[NS];rfl))
  .rintro x rest b G ⟨c,left,rfl,q,C,rfl⟩
   cases left with
   |nil=>rw[wN]at q;cases q
   |cons k ks'=>
    refine(yL.mp q).b λv r e K B=>?_;cases e;refine wB (YS n (D k (by simp)) #[0] K ?_);have L:dN (c++[k])=dN c+NO k:=by rw[DX,vU];rfl
    first
     |exact wP (Zo (c++[k]) ks' (by simp) B (by simp[C]) (by simp[add_assoc,L]))
     |exact wB _
  .rintro b G ⟨c,left,rfl,q,C,rfl⟩
   cases left with
   |cons k ks'=>refine(yL.mp q).d λv r e _=>?_;cases e
   |nil=>
    rw[aN]at h;show wpAny _ _ (retInt _) _ _ _;rw[C];refine wpAny_ret_mkInt ?_;show wpAny _ _ (if _=true then _ else _) Q E _;unfold reduceHash at h;by_cases u:(decide (-(2:Int) ^ 63<=Builtin.Tuple.tupleHashOf (c.map (KO knd)))&&decide (Builtin.Tuple.tupleHashOf (c.map (KO knd))<2 ^ 63))=true
    .rw[iP u];rw[iP u]at h;exact wP (by simpa [add_assoc]using h)
    .rw[iN u];rw[iN u]at h;exact wB (Ě (wP (by simpa [add_assoc]using h)))
end
section
def Iq(h:Q 0xFCA86420 {s with toks:=s.toks+1}):wpAny ↑6 A (pyHash .none) Q E s:=by
 refine wB ?_;rw[cRoomFor];refine wP ?_;refine wB (Ň (typeIs_none s) F.slot_NoneType_hash.lookup ?_);refine wB (Ň (typeIs_none s) F.slot_NoneType_hash.lookup ?_)
 refine wB (wpAny_callSpecialIfBoundUnlessNone?_slot (typeIs_none s) F.slot_NoneType_hash
  (é F.slot_NoneType_hash (typeIs_none s) F.entry_NoneType_hash
   (wpAny_ret_mkInt ?_) (F.args_NoneType_hash_1 _)))
 show wpAny _ _ _ Q E _;exact wP h
def zCS:K3->ō->Bool
 |some k,v=>rC k v
 |none,v=>v==.none
def rF: ∀{k}{v},zCS k v=true->(∃i t,k=some (.inl i)/\v=Value.int i t)\/(∃x t,k=some (.inr x)/\v=Value.str x t)\/(k=none/\v=.none)
 |some k,v,h=>by
  rcases yD h with⟨i,t,rfl,e⟩|⟨x,t,rfl,e⟩
  .exact .inl (ZX i t rfl e)
  .exact .inr (.inl (ZX x t rfl e))
 |none,v,h=>.inr (.inr {rfl,eq_of_beq h})
def mk(prog)(w):KeyKind prog w K3 where
 is:=zCS
 hash:=λ|some k=>zBL w k|none=>0xFCA86420
 inj:=λv a b ha hb=>by rcases rF ha with⟨i,t,rfl,rfl⟩|⟨x,t,rfl,rfl⟩|⟨rfl,rfl⟩<;>rcases rF hb with⟨j,u,rfl,e⟩|⟨y,u,rfl,e⟩|⟨rfl,e⟩<;>first |(injection e with e1 _;rw[e1];done)|rfl|exact nomatch e
 byValue:=λk v h=>by rcases rF h with⟨i,t,rfl,rfl⟩|⟨x,t,rfl,rfl⟩|⟨rfl,rfl⟩<;>rfl
 pyHash:=λhv h=>by
  rcases rF hv with⟨i,t,rfl,rfl⟩|⟨x,t,rfl,rfl⟩|⟨rfl,rfl⟩
  .exact wpAny_pyHash_int h
  .exact wpAny_pyHash_str h
  .exact Iq h
 eqBool:=λ{A} {E} {s} {a} {b} {u} {v} {Q} hu hv h=>by
  cases a with
  |some a=>
   cases b with
   |some b=>exact(wX prog w).eqBool hu hv (by rw[show decide (some a=some b)=decide (a=b)from by simp]at h;exact h)
   |none=>
    cases eq_of_beq hv;rw[show decide (some a=none)=false from dF0 λz=>nomatch z]at h;rcases yD (show rC a u=true from hu)with⟨i,t,rfl,rfl⟩|⟨x,t,rfl,rfl⟩
    .exact SeqAt.EqAt.int_none i t _ _ _ _ h
    .exact SeqAt.EqAt.str_none x t _ _ _ _ h
  |none=>
   cases eq_of_beq hu
   cases b with
   |some b=>
    rw[show decide (none=some b)=false from dF0 λz=>nomatch z]at h;rcases yD (show rC b v=true from hv)with⟨i,t,rfl,rfl⟩|⟨x,t,rfl,rfl⟩
    .exact SeqAt.EqAt.none_int i t _ _ _ _ h
    .exact SeqAt.EqAt.none_str x t _ _ _ _ h
   |none=>
    cases eq_of_beq hv;rw[show decide ((none:K3)=none)=true from dT0 rfl]at h;exact SeqAt.EqAt.same _ _ _ _ _ h
 «strs»:=λk x t v h=>by
  rcases rF h with⟨i,u,rfl,e⟩|⟨y,u,rfl,e⟩|⟨rfl,e⟩
  .exact nomatch e
  .injection e with e1 _
   subst e1;cases v<;>rfl
  .exact nomatch e
def Ua(a b):decide (NK.key a=NK.key b)=decide (a=b):=by
 by_cases h:a=b
 .subst h;simp
 .rw[dF0 h,dF0 λz=>h (NK.key.inj z)]
def K8(a)(b):decide (NK.key a=NK.tup b)=false:=dF0 λz=>nomatch z
def K9(a)(b):decide (NK.tup b=NK.key a)=false:=dF0 λz=>nomatch z
def L3(a b):decide (NK.tup a=NK.tup b)=decide (a=b):=by
 by_cases h:a=b
 .subst h;simp
 .rw[dF0 h,dF0 λz=>h (NK.tup.inj z)]
def YT(h:(mk prog w).is k v=true): ∃x:V,RelV x v/\rD x=true:=by
 rcases rF h with⟨i,t,rfl,rfl⟩|⟨x,t,rfl,rfl⟩|⟨rfl,rfl⟩
 .exact{.int i,⟨t,rfl⟩,rfl}
 .exact{.str x,⟨t,rfl⟩,rfl}
 .exact{.non,rfl,rfl}
def Ir
  (he: ∀I∈x, ∀L u v  Q ,QZ (mk prog w) s.heap I u->QZ (mk prog w) s.heap L v->Q (decide (I=L)) s->wpAny ↑6 A (eqBool u v) Q E s)
  (hx:QZ (mk prog w) s.heap (.tup x) (.ref a)) (hy:QZ (mk prog w) s.heap (.tup y) (.ref b)) (h:P (.done (.ret (.bool (decide (x=y))))) s):
  wpAny ↑6 A (Builtin.«tuple.__eq__» {[.ref a,.ref b],[]}) P E s:=by
 refine(xR.mp hx).o λ_ oa xs na e W _ aa X=>?_;cases e;refine(xR.mp hy).o λ_ ob ys nb e T _ Y U=>?_;cases e;show wpAny _ _ (isInstance _ _ >>= _) _ _ s;refine wB (ĩ (GO hy) isSubtype_tuple_tuple ?_);refine wB (wpAny_tupleItemsOf W aa ?_);refine wB (wpAny_tupleItemsOf T Y ?_);refine wB ?_
 refine wpAny_forIn_list _
  (λrest r S=>r.1=none/\S=s/\ ∃H K q o,rest=List.zip q o/\(∀k∈H,k∈x)/\vT _ s.heap H q/\vT _ s.heap K o/\decide (H=K)=decide _/\(q.length==o.length)=(xs.size==ys.size))
  _ ?_ ?_ _ _ {rfl,rfl,x,y,_,_,rfl,λk J=>J,X,U,rfl,by simp}
 .rintro⟨u,v⟩ rest r S ⟨hr,rfl,H,K,q,o,M,Z,C,c,j,B⟩
  cases H with
  |nil=>rw[wN.mp C]at M;simp at M
  |cons I x''=>
   cases K with
   |nil=>rw[wN.mp c]at M;simp at M
   |cons L y''=>
    refine(yL.mp C).b λu' F V h1 G=>?_;subst V;refine(yL.mp c).b λv' m ac h2 D=>?_;subst ac;obtain⟨⟨rfl,rfl⟩,rfl⟩:=M;refine wB (he I (Z I mF0) L _ _ _ h1 h2 ?_);by_cases J:I=L
    .subst J;simp only[fT0];refine wP {rfl,rfl,x'',y'',F,m,rfl,λk J=>Z k (mO _ J),G,D,?_,by simpa using B};rw[<-j];by_cases N:x''=y''
     .simp[N]
     .simp[N]
    .rw[dF0 J];have hf:decide (x=y)=false:=by rw[<-j];simp[J]
     rw[hf]at h;exact wB (wP (wP (wP h)))
 .rintro⟨r1,r2⟩ S ⟨hr,rfl,H,K,q,o,M,Z,C,c,j,B⟩;subst hr;refine wP ?_
  have O:(xs.size==ys.size)=decide (x=y):=by
   rw[<-j, <-B]
   cases H with
   |nil=>
    rw[wN.mp C]
    cases K with
    |nil=>rw[wN.mp c];simp
    |cons L y''=>refine(yL.mp c).b λv' m am h2 D=>?_;subst am;simp
   |cons I x''=>
    refine(yL.mp C).b λu' F ap h1 G=>?_;subst ap
    cases K with
    |nil=>rw[wN.mp c];simp
    |cons L y''=>refine(yL.mp c).b λv' m be h2 D=>?_;subst be;simp at M
  show P (.done (.ret (.bool _))) S;rw[O];exact h
theorem NT: ∀{ks},DW ks<=n-> ∀k∈ks,sC k<=n
 |[],_,k,hk=>by simp at hk
 |x::xs,hx,k,hk=>by
  rw[sD]at hx;rcases mC.mp hk with rfl|hk
  .lia
  .exact NT #[0] k hk
theorem YU: ∀ n {A}{E}{s}{x y}{u v}{Q},sC x<=n->A.units+n<cLine->QZ (mk prog w) s.heap x u->QZ (mk prog w) s.heap y v->Q (decide (x=y)) s->wpAny ↑6 A (eqBool u v) Q E s
 |n,A,E,s,.key a,.key b,u,v,Q,_,_,hx,hy,h=>(mk prog w).eqBool (wD.mp hx) (wD.mp hy) (by rw[Ua]at h;exact h)
 |n,A,E,s,.key a,.tup b,u,v,Q,_,hu,hx,hy,h=>by obtain⟨z,D,j⟩:=YT (wD.mp hx);refine(xR.mp hy).o λl o _ m O B q hd _=>?_;subst O;rw[K8]at h;exact(KN D j ⟨o,B,q,m,hd⟩ #[0]).2.1 prog w E Q h
 |n,A,E,s,.tup a,.key b,u,v,Q,_,hu,hx,hy,h=>by obtain⟨z,D,j⟩:=YT (wD.mp hy);refine(xR.mp hx).o λl o _ m P B q hd _=>?_;subst P;rw[K9]at h;exact(KN D j ⟨o,B,q,m,hd⟩ #[0]).1 prog w E Q h
 |0,A,E,s,.tup a,.tup b,u,v,Q,hd,_,hx,hy,h=>by rw[iU]at hd;lia
 |n+1,A,E,s,.tup x,.tup y,u,v,Q,hd,hu,hx,hy,h=>by
  refine(xR.mp hx).j λa _ _ _ k=>k.elim λL _=>?_;refine(xR.mp hy).j λb _ _ _ N=>N.elim λG _=>?_;subst L G;rw[iU]at hd;rw[L3]at h;unfold eqBool
  try with_reducible refine ð ?_
  by_cases c:(Value.ref a==Value.ref b)=true
  .rw[iP c];have e:=by have:=eq_of_beq c;injection this
   subst e;have:=NK.tup.inj (UX hx hy);subst this;exact wB (Ě (wP (by simpa using h)))
  .rw[iN c]
   refine wB (wpAny_richCompare_same_room (GO hx) (GO hy) F.slot_tuple_eq
    (é F.slot_tuple_eq (GO hx) F.entry_tuple_eq (Ir (λK C M u v Q H I J=>YU n (NT #[0] K C) #[0] H I J) hx hy (Z0 _ rfl (λe=>nomatch e) (Ċ h))) (F.args_tuple_eq_2 _ _)) #[0])
theorem Ey: ∀ n m {A}{E}{s}{x}{u}{Q},sC x<=n->n<m->QZ (mk prog w) s.heap x u->Q true s->wpAny ↑6 A (eqIsQuiet m u) Q E s
 |n,m,A,E,s,.key k,u,Q,_,_,hx,h=>by rw[eqIsQuiet_byValue m ((mk prog w).byValue _ _ (wD.mp hx))];exact wP h
 |0,m,A,E,s,.tup ks,u,Q,hd,_,hx,h=>by rw[iU]at hd;lia
 |n+1,0,A,E,s,.tup ks,u,Q,hd,hm,hx,h=>by lia
 |n+1,m+1,A,E,s,.tup ks,u,Q,hdp,hm,hx,h=>by
  refine(xR.mp hx).o λa o _ j N D G hd hi=>?_;subst N;have C:s.TypeIs (.ref a) "tuple":=(Z3 o D G)
  rw[iU]at hdp;unfold eqIsQuiet;refine wB (Ň C F.slot_tuple_eq.lookup ?_);refine wB (ĩ C isSubtype_tuple_tuple ?_);refine wB (Ė D hd ?_);refine wB ?_;rw[<-Array.forIn_toList];refine wpAny_forIn_list _ (λrest r q=>r.1=none/\q=s/\ ∃left,(∀k∈left,k∈ks)/\vT _ s.heap left rest) _ ?_ ?_ _ _ {rfl,rfl,ks,λk c=>c,hi}
  .rintro v rest r q ⟨B,rfl,left,b,y⟩
   cases left with
   |nil=>rw[wN]at y;cases y
   |cons k left=>
    refine(yL.mp y).b λM K e H I=>?_;cases e;refine wB (Ey n m (NT #[0] k (b k mF0)) #[0] H ?_);exact wP {rfl,rfl,left,λk c=>b k (mO _ c),I}
  .rintro⟨L,J⟩ q ⟨B,rfl,_⟩;subst B;exact wP h
end
def yB(prog)(w):HeapKind prog w NK where
 is:=λh k a=>QZ (mk prog w) h k (.ref a)/\sC k<=4
 hash:=KO (mk prog w)
 draws:=NO
 room:=λA=>A.units+4<cLine
 inj:=λhx hy=>UX hx.1 hy.1
 keeps:=λx ho hd hs=>{NP (λa o' items n e q=>(hs.2 a λz=>by subst z;rw[ho]at e;cases e;rw[hd]at q;cases q).trans e) x.1,x.2}
 pyHash:=λhu hk h=>YS 4 hk.2 hu hk.1 h
 eqBool:=λhu hx hy h=>YU 4 hx.2 hu hx.1 hy.1 h
 quiet:=λhk h=>Ey 4 8 hk.2 ↑15 hk.1 h
noncomputable def DN(P:Ŏ)(w:World)(a:Addr)(xs:List (NK×Addr×ō)):HO:=
 .ext λh=>↑7<=sizeLine/\(a==sysModules)=false/\ ∃o es b,h.get? a=some o/\o.ExactDict/\o.data=.dict es b/\es.toList=xs.map (entryOfKey (yB P w))/\(xs.map (·.1)).Nodup
end M
end L2
namespace L2
open PySem PySem.Spec PyProof.Rows
def Fly(h:Heap)(e T:Addr)(cls:ō)(d:Option Addr)(fl:ō):Prop:=
 ∃a vs b ts,h.get? e=some a/\a.cls=cls/\a.dict=d/\a.data=.fields vs/\vs[1]? =some (.ref T)/\T≠e/\h.get? T=some b/\b.data=.fields ts/\ts[3]? =some fl/\vs[2]? =some .none
structure Mvd(fs:B9)(e T:Addr)(h h':Heap):Prop where
 keep: ∀b o,b≠e->b≠T->b∉fs->h.get? b=some o->h'.get? b=some o
 slot: ∀b o,b≠e->b≠T->h.get? b=some o-> ∃sl,h'.get? b=some {o with slots:=sl}
 there: ∀b o,h.get? b=some o-> ∃o',h'.get? b=some o'
def Mvd.new(a:Mvd fs e T h j)(n:h.get? T'=none)(b:Mvd fs e T' j m):Mvd fs e T h m:=by
 have ne: ∀c o,h.get? c=some o->c≠T':=λc o q z=>by rw[z,n]at q;cases q
 exact{λc o j m v q=>b.keep c o j (ne c o q) v (a.keep c o j m v q),λc o j m q=>by obtain⟨sl,s⟩:=a.slot c o j m q;obtain⟨u,w⟩:=b.slot c _ j (ne c o q) s;exact⟨u,w⟩,λc o q=>let ⟨y,s⟩:=a.there c o q;b.there c y s}
def CXe(P:Ŏ)(w:World):Id:=λa H s E x b=> ∃e T C d H',x=.ref e/\b.os=s.os/\AllBare b.gens/\Un (Lk a) [] H H' s.heap b.heap/\HOk P w H' b.heap/\Fly b.heap e T (.ref C) d .none/\
 s.heap.get? e=none/\s.heap.get? T=none/\H' e=none/\H' T=none/\E (.ref C) d H'
noncomputable abbrev zFV:List Value:=[.type "ValueError",.type "Exception",.type "BaseException",.type "object"]
noncomputable def qn:List Str:=["__class__","__getattribute__","__getattr__","__setattr__","place","ring"]
end L2
namespace L2
namespace M
open PySem PySem.Spec PyProof.Rows
inductive MV where
 |non|bl (b:Bool)|int (i:Int)|str (x:Db)|tup (ds:List MV)|scr (ds:List MV)|loc (l:Nat)|typ (n:String)|obj (c:Str) (ns:D0) (ds:List MV)
abbrev Q0:=List MV
abbrev R0:=Option MV
abbrev V0:=List (Nat×List MV)
abbrev Y0:=List (MV×MV)
abbrev zA0:=List (List MV)
instance:Inhabited MV:={.non}
inductive MO where
 |lst (ds:Q0)|dic (kvs:Y0)|ins (c:Str) (fs:List (Str×MV))|rcd (c:Str) (fs:List (Str×MV))|fdc (kvs:Y0)
abbrev Sto:=List MO
def SqF(K:O0)(H:Hp)(a:Addr)(xs:List V):Prop:=
 (∃o,H a=some (.frz o (.lst xs)))\/
  ∃(o:Obj)(b:B0)(n:Nat),K.lookup a=some o/\o.cls=.type "list"/\o.dict=none/\o.data=.seq b n/\b.size<=sizeLine/\Vals xs b.toList
def SqF.l{K:O0}(h:SqF K H a xs):SqL K H a xs:=by
 rcases h with⟨o,h⟩|h
 .exact .inl (.inr ⟨o,h⟩)
 .exact .inr h
mutual
def Den(K:O0)(α:B9)(H:Hp):MV->V->Prop
 |.non,v=>v=.non
 |.bl b,v=>v=.bl b
 |.int i,v=>v=.int i
 |.str x,v=>v=.str (pU x)
 |.tup ds,v=> ∃a vs,v=.ref a/\SqT K H a vs/\DenL K α H ds vs
 |.scr ds,v=> ∃a vs,v=.ref a/\SqF K H a vs/\DenL K α H ds vs
 |.loc l,v=> ∃a,v=.ref a/\α[l]? =some a
 |.typ n,v=>v=.ty n
 |.obj c ns ds,v=> ∃a C j vs o,v=.ref a/\H a=some (.frz o (.ins C j (ns.zip vs)))/\PySem.W.nsIn K mainGlobals c=some (some (.ref C))/\(PySem.W.clsIn K C).map (·.name)=some c/\ns.length=vs.length/\DenL K α H ds vs
def DenL(K:O0)(α:B9)(H:Hp):List MV->List V->Prop
 |[],vs=>vs=[]
 |d::ds,vs=> ∃v r,vs=v::r/\Den K α H d v/\DenL K α H ds r
end
structure Ex0(α:B9)(H:Hp)(α':B9)(H':Hp):Prop where
 pre: ∃t,α'=α++t
 tup: ∀b xs,H b=some (.tup xs)->H' b=some (.tup xs)
 frz: ∀b o u,H b=some (.frz o u)->H' b=some (.frz o u)
structure Ext(α:B9)(H:Hp)(α':B9)(H':Hp):Prop extends Ex0 α H α' H' where
 new: ∀b∈α',b∈α\/H b=none
 keep: ∀b o,H b=some o->b∉α->H' b=some o
 has: ∀b o,H b=some o-> ∃o',H' b=some o'
section
variable{K:O0}{α α':B9}{H H':Hp}
def Ext.refl(α)(H):Ext α H α H:={{{[],by simp},λ_ _ h=>h,λ_ _ _ h=>h},λb h=>.inl h,λ_ _ h _=>h,λ_ o h=>⟨o,h⟩}
def Ex0.grow(α t)(H):Ex0 α H (α++t) H:={⟨t,rfl⟩,λ_ _ h=>h,λ_ _ _ h=>h}
def Ext.free(x:Ext α H α' H')(h:H' b=none):H b=none:=by
 cases e:H b with
 |none=>rfl
 |some o=>obtain⟨a,h'⟩:=x.has b o e;rw[h]at h';cases h'
def Ext.out(x:Ext α H α' H')(h:H b=some o)(n:b∉α):b∉α':=λz=>by
 rcases x.new b z with z|z
 .exact n z
 .rw[h]at z;cases z
def Ext.trans(x:Ext α H α' H')(y:Ext α' H' α'' H''):Ext α H α'' H'' where
 pre:=by obtain⟨t,rfl⟩:=x.pre;obtain⟨u,rfl⟩:=y.pre;exact{_,by rw[aA]}
 new:=λb h=>(y.new b h).elim (x.new b) λz=>.inr (x.free z)
 keep:=λb o h n=>y.keep b o (x.keep b o h n) (x.out h n)
 has:=λb o h=>let ⟨o',h'⟩:=x.has b o h;y.has b o' h'
 tup:=λb xs h=>y.tup b xs (x.tup b xs h)
 frz:=λb o u h=>y.frz b o u (x.frz b o u h)
def Ex0.at(x:Ex0 α H α' H'){l:Nat}(h:α[l]? =some a):α'[l]? =some a:=by obtain⟨t,rfl⟩:=x.pre;rw[ã (gS.mp h).1];exact h
def Ex0.sqT(x:Ex0 α H α' H')(q:SqT K H a vs):SqT K H' a vs:=by
 rcases q with(q|⟨o,q⟩)|q
 .exact .inl (.inl (x.tup a vs q))
 .exact .inl (.inr {o,x.frz a o _ q})
 .exact .inr q
def Ex0.sqF(x:Ex0 α H α' H')(q:SqF K H a vs):SqF K H' a vs:=by
 rcases q with⟨o,q⟩|q
 .exact .inl {o,x.frz a o _ q}
 .exact .inr q
mutual
theorem Den.ex0(x:Ex0 α H α' H'): ∀{d:MV}{v:V},Den K α H d v->Den K α' H' d v
 |.non,_,q=>by unfold Den at q ⊢; exact q
 |.bl _,_,q=>by unfold Den at q ⊢; exact q
 |.int _,_,q=>by unfold Den at q ⊢; exact q
 |.str _,_,q=>by unfold Den at q ⊢; exact q
 |.typ _,_,q=>by unfold Den at q ⊢; exact q
 |.obj c ns ds,_,q=>by unfold Den at q ⊢;obtain⟨a,C,j,vs,o,e,h,B,m,u,l⟩:=q;exact{a,C,j,vs,o,e,x.frz a _ _ h,B,m,u,DenL.ex0 x l}
 |.loc _,_,q=>by unfold Den at q ⊢;obtain⟨a,e,h⟩:=q;exact{a,e,x.at h}
 |.tup ds,_,q=>by unfold Den at q ⊢;obtain⟨a,vs,e,s,l⟩:=q;exact{a,vs,e,x.sqT s,DenL.ex0 x l}
 |.scr ds,_,q=>by unfold Den at q ⊢;obtain⟨a,vs,e,s,l⟩:=q;exact{a,vs,e,x.sqF s,DenL.ex0 x l}
theorem DenL.ex0(x:Ex0 α H α' H'): ∀{ds:Q0}{vs:List V},DenL K α H ds vs->DenL K α' H' ds vs
 |[],_,q=>by unfold DenL at q ⊢; exact q
 |d::ds,_,q=>by unfold DenL at q ⊢;obtain⟨v,r,e,a,l⟩:=q;exact{v,r,e,Den.ex0 x a,DenL.ex0 x l}
end
def Den.ext(x:Ext α H α' H')(q:Den K α H d v):Den K α' H' d v:=q.ex0 x.toEx0
def DenL.ext(x:Ext α H α' H')(q:DenL K α H d v):DenL K α' H' d v:=q.ex0 x.toEx0
theorem GP:Den K α H .non .non:=by unfold Den;rfl
theorem bF(b):Den K α H (.bl b) (.bl b):=by unfold Den;rfl
theorem xS(i):Den K α H (.int i) (.int i):=by unfold Den;rfl
theorem sE(x):Den K α H (.str x) (.str (pU x)):=by unfold Den;rfl
theorem Ez(n):Den K α H (.typ n) (.ty n):=by unfold Den;rfl
def nP(s:SqT K H a vs)(l:DenL K α H ds vs):Den K α H (.tup ds) (.ref a):=by unfold Den;exact Z2 a vs rfl s l
def Fa(s:SqF K H a vs)(l:DenL K α H ds vs):Den K α H (.scr ds) (.ref a):=by unfold Den;exact Z2 a vs rfl s l
def oR(h:α[l]? =some a):Den K α H (.loc l) (.ref a):=by unfold Den;exact⟨a,rfl,h⟩
def UY(d:Den K α H .non v):v=.non:=by unfold Den at d;exact d
def SQ(d:Den K α H (.bl b) v):v=.bl b:=by unfold Den at d;exact d
def iV(d:Den K α H (.int i) v):v=.int i:=by unfold Den at d;exact d
def sF(d:Den K α H (.str x) v):v=.str (pU x):=by unfold Den at d;exact d
def Fc(h:H a=some (.frz o (.ins C dx (ns.zip vs))))(m:PySem.W.nsIn K mainGlobals c=some (some (.ref C)))(b:(PySem.W.clsIn K C).map (·.name)=some c)(j:ns.length=↑9)(l:DenL K α H ds vs):Den K α H (.obj c ns ds) (.ref a):=by unfold Den;exact Yq a C dx vs o rfl h m b j l
def IO(d:Den K α H (.obj c ns ds) v): ∃a C j vs o,v=.ref a/\H a=some (.frz o (.ins C j (ns.zip vs)))/\PySem.W.nsIn K mainGlobals c=some (some (.ref C))/\(PySem.W.clsIn K C).map (·.name)=some c/\ns.length=↑9/\DenL K α H ds vs:=by unfold Den at d;exact d
def NU(d:Den K α H (.typ n) v):v=.ty n:=by unfold Den at d;exact d
def bG(d:Den K α H (.tup ds) v): ∃a vs,v=.ref a/\SqT K H a vs/\DenL K α H ds vs:=by unfold Den at d;exact d
def IP(d:Den K α H (.scr ds) v): ∃a vs,v=.ref a/\SqF K H a vs/\DenL K α H ds vs:=by unfold Den at d;exact d
def ET(d:Den K α H (.loc l) v): ∃a,v=.ref a/\α[l]? =some a:=by unfold Den at d;exact d
theorem yA:DenL K α H [] []:=by unfold DenL;rfl
def zT(a:Den K α H d v)(l:DenL K α H ds vs):DenL K α H (d::ds) (v::vs):=by unfold DenL;exact Z2 v vs rfl a l
def DenL.uncons(l:DenL K α H (d::ds) vs): ∃v r,vs=v::r/\Den K α H d v/\DenL K α H ds r:=by unfold DenL at l;exact l
def DenL.isnil(l:DenL K α H [] vs):vs=[]:=by unfold DenL at l;exact l
theorem DenL.length: ∀{ds}{vs},DenL K α H ds vs->↑9=↑11
 |[],_,q=>by rw[q.isnil];rfl
 |d::ds,_,q=>by refine q.uncons.b λv r a _ l=>?_;subst a;rw[lC,lC,DenL.length l]
theorem DenL.append: ∀{ds es}{vs us},DenL K α H ds vs->DenL K α H es us->DenL K α H (ds++es) (vs++us)
 |[],_,_,_,q,l=>by rw[q.isnil];exact l
 |d::ds,_,_,_,q,l=>by refine q.uncons.b λv r b a j=>?_;subst b;exact zT a (DenL.append j l)
theorem DenL.drop: ∀{ds}{vs} n ,DenL K α H ds vs->DenL K α H (ds.drop n) (vs.drop n)
 |_,_,0,q=>q
 |[],_,n+1,q=>by rw[q.isnil];exact yA
 |d::ds,_,n+1,q=>by refine q.uncons.b λv r a _ l=>?_;subst a;exact DenL.drop n l
theorem DenL.take: ∀{ds}{vs} n ,DenL K α H ds vs->DenL K α H (ds.take n) (vs.take n)
 |_,_,0,q=>yA
 |[],_,n+1,q=>by rw[q.isnil];exact yA
 |d::ds,_,n+1,q=>by refine q.uncons.b λv r b a l=>?_;subst b;exact zT a (DenL.take n l)
theorem DenL.reverse: ∀{ds}{vs},DenL K α H ds vs->DenL K α H ds.reverse vs.reverse
 |[],_,q=>by rw[q.isnil];exact yA
 |d::ds,_,q=>by refine q.uncons.b λv r b a l=>?_;subst b;rw[reverse_cons,reverse_cons];exact(DenL.reverse l).append (zT a yA)
theorem DenL.set(a:Den K α H d v): ∀{ds}{vs} n ,DenL K α H ds vs->DenL K α H (ds.set n d) (vs.set n v)
 |[],_,_,q=>by rw[q.isnil];exact yA
 |e::ds,_,0,q=>by refine q.uncons.b λm r b j l=>?_;subst b;exact zT a l
 |e::ds,_,n+1,q=>by refine q.uncons.b λm r k j l=>?_;subst k;exact zT j (DenL.set a n l)
theorem DenL.get: ∀{ds}{vs}{i:Nat}{v},DenL K α H ds vs->vs[i]? =some v-> ∃d,ds[i]? =some d/\Den K α H d v
 |[],_,_,_,q,e=>by rw[q.isnil]at e;simp at e
 |d::ds,_,0,_,q,e=>by refine q.uncons.b λv r k a l=>?_;subst k;simp at e;subst e;exact⟨d,rfl,a⟩
 |d::ds,_,i+1,_,q,e=>by refine q.uncons.b λv r m a l=>?_;subst m;refine(DenL.get l (by simpa using e)).a λb c j=>?_;exact{b,by simpa using c,j}
def DenL.at{i:Nat}(q:DenL K α H ds vs)(e:ds[i]? =some d): ∃v,vs[i]? =some v/\Den K α H d v:=by
 have a:i<vs.length:=by rw[q.length];exact((gS.mp e).1)
 refine(q.get (gE a)).a λj b c=>?_;rw[e]at b;cases b;exact Z3 _ (gE a) c
def DenL.cut(q:DenL K α H ds vs)(lo hi):DenL K α H (dM ds lo hi) (Ig vs lo hi):=by unfold dM Ig;rw[q.length];exact(q.drop _).take _
theorem rG: ∀(j:Za),DenL K α H (j.map MV.int) (j.map V.int)
 |[]=>yA
 |b::bs=>zT (xS b) (rG bs)
end
structure Gm where
 K:PySem.W.Frag
 mg:Str->Option ō
 P:Ŏ
 w:World
abbrev _root_.L2.Cx.g(X:Cx):Gm:=⟨X.K,X.mg,X.prog,X.w⟩
inductive DenF(K:O0)(α:B9)(H:Hp):List (Str×MV)->List (Str×V)->Prop
 |nil:DenF K α H [] []
 |cons {x:Str} {d:MV} {v:V} {fs gs}:Den K α H d v->DenF K α H fs gs->DenF K α H ((x,d)::fs) ((x,v)::gs)
def DenF.ex0{K:O0}(x:Ex0 α H α' H'): ∀{fs gs},DenF K α H fs gs->DenF K α' H' fs gs:=λb=>by
 induction b with
 |nil=>exact .nil
 |cons a l ih=>exact .cons (a.ex0 x) (ih)
def KeyD:MV->Key->Prop
 |.int i,k=>k=.inl i
 |.str x,k=>k=.inr (pU x)
 |_,_=>False
inductive DenK(K:O0)(α:B9)(H:Hp):List (MV×MV)->List (Key×V)->Prop
 |nil:DenK K α H [] []
 |cons {k:MV} {k':Key} {d:MV} {v:V} {fs gs}:KeyD k k'->Den K α H d v->DenK K α H fs gs->DenK K α H ((k,d)::fs) ((k',v)::gs)
def DenK.ex0{K:O0}(x:Ex0 α H α' H'): ∀{fs gs},DenK K α H fs gs->DenK K α' H' fs gs:=λb=>by
 induction b with
 |nil=>exact .nil
 |cons k a l ih=>exact .cons k (a.ex0 x) (ih)
mutual
def xP:MV->Option NK
 |.non=>some (.key none)
 |.int i=>some (.key (some (.inl i)))
 |.str x=>some (.key (some (.inr (pU x))))
 |.tup ds=>(jZ ds).map .tup
 |_=>none
def jZ:List MV->Option (List NK)
 |[]=>some []
 |d::ds=>(xP d).bind λk=>(jZ ds).map (k::·)
end
inductive DenN(K:O0)(α:B9)(H:Hp):List (MV×MV)->List (NK×Addr×ō)->Prop
 |nil:DenN K α H [] []
 |cons {k:MV} {nk:NK} {a:Addr} {d:MV} {v:V} {u:ō} {fs xs}:xP k=some nk->sC nk<=4->Den K α H k (.ref a)->Den K α H d v->RelV v u->DenN K α H fs xs->DenN K α H ((k,d)::fs) ((nk,a,u)::xs)
def DenN.ex0{K:O0}(x:Ex0 α H α' H'): ∀{fs xs},DenN K α H fs xs->DenN K α' H' fs xs:=λb=>by
 induction b with
 |nil=>exact .nil
 |cons k e a d r l ih=>exact .cons k e (a.ex0 x) (d.ex0 x) r (ih)
def ObD(g:Gm)(α:B9)(H:Hp)(a:Addr):MO->Prop
 |.lst ds=> ∃vs,H a=some (.lst vs)/\DenL g.K α H ds vs
 |.dic kvs=>(∃ks,H a=some (.dK ks)/\DenK g.K α H kvs ks)\/ ∃xs,H a=some (DN g.P g.w a xs)/\DenN g.K α H kvs xs
 |.ins c fs=> ∃C gs,g.mg c=some (.ref C)/\DenF g.K α H fs gs/\
   ∃j,H a=some (.frz j (.ext λh=>h.get? a=some j))/\j.cls=.ref C/\(fs=[]\/ ∃m q,j.dict=some m/\H m=some (.frz q (.xd gs))/\ ∃vs,j.data=.fields vs)
 |.rcd c fs=> ∃C m gs,PySem.W.nsIn g.K mainGlobals c=some (some (.ref C))/\H a=some (.ins C m gs)/\DenF g.K α H fs gs
 |.fdc kvs=> ∃j xs,H a=some (.frz j (DN g.P g.w a xs))/\DenN g.K α H kvs xs
def ObD.there(h:ObD g α H a o): ∃j,H a=some j/\(∀xs,j≠.tup xs)/\ ∀ob u,j=.frz ob u-> ∃m,u=.ext m:=by
 cases o with
 |lst ds=>refine h.a λvs h _=>?_;exact Z0 _ h (λxs z=>by cases z) (λ_ _ z=>by cases z)
 |dic ds=>
  rcases h with⟨vs,h,_⟩|⟨vs,h,_⟩
  .exact(Z0 _ h (λxs z=>by cases z) (λ_ _ z=>by cases z))
  .exact(Z0 _ h (λxs z=>by cases z) (λ_ _ z=>by cases z))
 |ins c ds=>
  obtain⟨_,_,_,_,_,h,_⟩:=h;exact Z0 _ h (λxs z=>by cases z) (λ_ _ z=>by cases z;exact{_,rfl})
 |rcd c ds=>refine h.h λ_ _ _ b=>b.f λ_ h _=>?_;exact Z0 _ h (λxs z=>by cases z) (λ_ _ z=>by cases z)
 |fdc kvs=>refine h.d λ_ _ h _=>?_;exact Z0 _ h (λxs z=>by cases z) (λ_ _ z=>by cases z;exact{_,rfl})
def ObD.move(h:ObD g α H a o)(x:Ex0 α H α' H')(e:H' a=H a):ObD g α' H' a o:=by
 cases o with
 |lst ds=>refine h.a λvs h l=>?_;exact Z3 vs (e.trans h) (l.ex0 x)
 |dic ds=>
  rcases h with⟨vs,h,l⟩|⟨vs,h,l⟩
  .exact .inl {vs,e.trans h,l.ex0 x}
  .exact .inr {vs,e.trans h,l.ex0 x}
 |ins c ds=>
  obtain⟨C,gs,m,l,j,h,v,y⟩:=h;exact{C,gs,m,l.ex0 x,j,e.trans h,v,y.imp id λ⟨b,s,q,w,u⟩=>(Z2 b s q (x.frz _ _ _ w) u)}
 |rcd c ds=>refine h.h λC b gs k=>k.f λm h l=>?_;exact Zj C b gs {m,e.trans h,l.ex0 x}
 |fdc kvs=>refine h.d λj xs h l=>?_;exact ZX j xs (e.trans h) (l.ex0 x)
structure Wd(g:Gm)(α:B9)(S:Sto)(H:Hp):Prop where
 len:α.length=↑2
 nd:α.Nodup
 obj: ∀(l:Nat)(a:Addr)(o:MO),α[l]? =some a->S[l]? =some o->ObD g α H a o
section
variable{H:Hp}
def Wd.at(w:Wd g α S H){l:Nat}(h:S[l]? =some o): ∃a,α[l]? =some a/\ObD g α H a o:=by
 have b:l<α.length:=by rw[w.len];exact(gS.mp h).1
 exact{α[l],gE b,w.obj l _ o (gE b) h}
def Wd.of(w:Wd g α S H){l:Nat}(h:α[l]? =some a): ∃o,S[l]? =some o/\ObD g α H a o:=by
 have b:l<S.length:=by rw[<-w.len];exact(gS.mp h).1
 exact Z3 (S[l]) (gE b) (w.obj l a _ h (gE b))
def Wd.mem(w:Wd g α S H)(h:a∈α): ∃j,H a=some j/\(∀xs,j≠.tup xs)/\ ∀ob u,j=.frz ob u-> ∃m,u=.ext m:=by obtain⟨l,b⟩:=getElem?_of_mem h;refine(w.of b).a λo _ q=>?_;exact q.there
def Wd.newx(w:Wd g α S H)(hp:H p=none):Ext α H α (yP H p o) where
 pre:={[],by simp}
 new:=λb h=>.inl h
 keep:=λb o h _=>by rw[zH (zQ h hp)];exact h
 has:=λb o h=>{o,by rw[zH (zQ h hp)];exact h}
 tup:=λb o h=>by rw[zH (zQ h hp)];exact h
 frz:=λb o u h=>by rw[zH (zQ h hp)];exact h
def Wd.fresh(w:Wd g α S H)(a:H p=none):p∉α:=λz=>by refine(w.mem z).a λ_ h _=>?_;rw[a]at h;cases h
def Wd.new(w:Wd g α S H)(b:H p=none):Wd g α S (yP H p o):=
 {w.len,w.nd,λl a ob c j=>(w.obj l a ob c j).move (w.newx b).toEx0 (zH λz=>w.fresh b (by rw[<-z];exact ò c))}
def Lm(h:H a=some ho)(n: ∀ob u,ho≠.frz ob u:=by intro _ _ z;cases z): ∀ob u,H a≠some (.frz ob u):=λob u z=>n ob u (è (h.symm.trans z))
def Wd.writex(w:Wd g α S H){l:Nat}(h:α[l]? =some a)(nf: ∀ob u,H a≠some (.frz ob u)):Ext α H α (yP H a o) where
 pre:={[],by simp}
 new:=λb h=>.inl h
 keep:=λb o e n=>by rw[zH λz=>n (by rw[z];exact ò h)];exact e
 has:=λb o e=>by
  by_cases z:b=a
  .subst z;exact{_,zM}
  .exact{o,by rw[zH z];exact e}
 tup:=λb xs e=>by refine(w.mem (ò h)).c λho h1 h2 _=>?_;rw[zH λz=>h2 xs (by subst z;rw[e]at h1;exact(è h1).symm)];exact e
 frz:=λb ob u e=>by rw[zH λz=>nf ob u (by rw[<-z];exact e)];exact e
def Wd.ne(w:Wd g α S H){l:Nat}(h:α[l]? =some a)(h':α[m]? =some b)(n:l≠m):a≠b:=by rintro rfl;obtain⟨o,c⟩:=gS.mp h;obtain⟨q,j⟩:=gS.mp h';exact n ((getElem_inj w.nd).mp (c.trans j.symm))
def Wd.write(w:Wd g α S H)(h:α[l]? =some a)(nf: ∀ob u,H a≠some (.frz ob u))(q:ObD g α (yP H a o) a ob):Wd g α (S.set l ob) (yP H a o) where
 len:=by rw[Ć];exact w.len
 nd:=w.nd
 obj:=λm b ob' h1 h2=>by
  by_cases e:l=m
  .subst e;rw[h]at h1;rw[Ĥ (by rw[<-w.len];exact(gS.mp h).1)]at h2;rw[<-è h1, <-è h2];exact q
  .rw[ħ e]at h2;exact(w.obj m b ob' h1 h2).move (w.writex h nf).toEx0 (zH (w.ne h1 h λz=>e z.symm))
def Wd.enterx(w:Wd g α S H)(x:Ext α0 H0 α H)(h0:H0 b=none)(n:b∉α):Ext α0 H0 (α++[b]) H where
 pre:=let ⟨t,e⟩:=x.pre;{_,by rw[e,aA]}
 new:=λc hc=>(ì.mp hc).elim (x.new c) λz=>.inr (by rw[mS.mp z];exact h0)
 keep:=x.keep
 has:=x.has
 tup:=x.tup
 frz:=x.frz
theorem Wd.enter(w:Wd g α S H)(h:H b=some (.lst vs))(n:b∉α)(l:DenL g.K α H ds vs):Wd g (α++[b]) (S++[.lst ds]) H where
 len:=by rw[lA,lA,w.len];rfl
 nd:=Ŀ.mpr {w.nd,by simp,λa ha c hc=>by rw[mS.mp hc];rintro rfl;exact n ha}
 obj:=λm a o h1 h2=>by
  by_cases hm:m<α.length
  .rw[ã hm]at h1;rw[ã (by rw[<-w.len];exact hm)]at h2;exact(w.obj m a o h1 h2).move (Ex0.grow α [b] H) rfl
  .have hm':m=α.length:=by
    have:=(gS.mp h1).1;rw[lA,lS]at this
    lia
   subst hm';rw[æ (à _),sub_self]at h1;rw[æ (by rw[w.len];exact à _),w.len,sub_self]at h2;cases h1;cases h2;exact Z3 vs h (l.ex0 (Ex0.grow α [b] H))
end
inductive R(β:Type) where
 |ok (b:β) (S:Sto)|exc (c:Str) (fs:List (Str×MV)) (S:Sto)|no
def R.bind:R β->(β->Sto->R γ)->R γ
 |.ok b S,k=>k b S
 |.exc c fs S,_=>.exc c fs S
 |.no,_=>.no
theorem R.bind_ok(b)(S)(k:β->Sto->R γ):(R.ok b S).bind k=k b S:=rfl
inductive Er where
 |val (d:MV)|new (ds:Q0)
instance:Inhabited Er:={.val .non}
def DenX(K:O0)(α:B9)(H:Hp):Er->V->Prop
 |.val d,v=>Den K α H d v
 |.new ds,v=> ∃b vs,v=.ref b/\H b=some (.lst vs)/\b∉α/\DenL K α H ds vs
def DenE(K:O0)(H:Hp)(α':B9)(H':Hp)(r:Er)(v:V):Prop:=DenX K α' H' r v/\match r with |.new _=> ∀a,v=.ref a->H a=none|_=>True
section
variable{K:O0}
def DenX.ext(x:Ext α H α' H'): ∀{r}{v},DenX K α H r v->DenX K α' H' r v
 |.val d,_,q=>Den.ext x q
 |.new ds,_,⟨b,vs,e,h,n,l⟩=>(Zo b vs e (x.keep b _ h n) (x.out h n) (l.ext x))
def DenE.val(q:Den K α' H' d v):DenE K H α' H' (.val d) v:=⟨q,trivial⟩
def DenE.back(c: ∀b,H b=none->H0 b=none)(q:DenE K H α' H' r v):DenE K H0 α' H' r v:=by
 refine{q.1,?_}
 cases r with
 |new ds=>exact λa e=>c a (q.2 a e)
 |_=>trivial
def DenE.ext(x:Ext α' H' α'' H'')(q:DenE K H α' H' r v):DenE K H α'' H'' r v:={q.1.ext x,q.2}
end
section
variable{K:O0}
def IQ(d:DenX K α H (.val .non) v):v=.non:=UY (K:=K) (α:=α) (H:=H) d
def NV(d:DenX K α H (.val (.bl b)) v):v=.bl b:=SQ (K:=K) (α:=α) (H:=H) d
def yM(d:DenX K α H (.val (.int b)) v):v=.int b:=iV (K:=K) (α:=α) (H:=H) d
def eB(d:DenX K α H (.val (.str b)) v):v=.str (pU b):=sF (K:=K) (α:=α) (H:=H) d
def Mw(d:DenX K α H (.val (.typ b)) v):v=.ty b:=NU (K:=K) (α:=α) (H:=H) d
def Ci(d:DenX K α H (.val (.obj c ns ds)) v): ∃a C j vs o,v=.ref a/\H a=some (.frz o (.ins C j (ns.zip vs)))/\PySem.W.nsIn K mainGlobals c=some (some (.ref C))/\(PySem.W.clsIn K C).map (·.name)=some c/\ns.length=↑9/\DenL K α H ds vs:=IO d
def dO(d:DenX K α H (.val (.tup ds)) v): ∃a vs,v=.ref a/\SqT K H a vs/\DenL K α H ds vs:=bG d
def NW(d:DenX K α H (.val (.scr ds)) v): ∃a vs,v=.ref a/\SqF K H a vs/\DenL K α H ds vs:=IP d
def bV(d:DenX K α H (.val (.loc l)) v): ∃a,v=.ref a/\α[l]? =some a:=ET (K:=K) (H:=H) d
end
noncomputable def KP:List Er->List V->List Addr
 |.new _::rs,.ref b::vs=>b::KP rs vs
 |_::rs,_::vs=>KP rs vs
 |_,_=>[]
inductive ArgsE(K:O0)(H:Hp)(α':B9)(H':Hp):List Er->List V->Prop
 |nil:ArgsE K H α' H' [] []
 |cons {r v rs vs}:DenE K H α' H' r v->(∀ds b,r=.new ds->v=.ref b->b∉KP rs vs)->ArgsE K H α' H' rs vs->ArgsE K H α' H' (r::rs) (v::vs)
def ArgsE.nones{K:O0}(q:ArgsE K H α' H' rs vs): ∀b∈KP rs vs,H b=none:=by
 induction q with
 |nil=>exact λb h=>by simp[KP]at h
 |@cons r v _ _ a n l ih=>
  intro b h
  cases r with
  |val d=>exact ih b (by simpa [KP]using h)
  |new ds=>
   refine a.1.d λc vs j _=>?_;subst j;rcases mC.mp h with rfl|h
   .exact a.2 _ rfl
   .exact ih b h
def ArgsE.back{K:O0}(j: ∀b,H b=none->H0 b=none): ∀{rs vs},ArgsE K H α' H' rs vs->ArgsE K H0 α' H' rs vs:=λc=>by
 induction c with
 |nil=>exact .nil
 |cons a n l ih=>exact .cons (a.back j) n (ih)
def ArgsE.length{K:O0}: ∀{rs vs},ArgsE K H α' H' rs vs->↑9=rs.length:=λa=>by
 induction a with
 |nil=>exact rfl
 |cons _ _ l ih=>exact by rw[lC,lC,ih]
class Dn (β:Type) (τ:outParam Type) where
 d:Gm->Hp->List Addr->Sto->Hp->β->τ->Prop
 back: ∀{g:Gm}{H H0:Hp}{α':B9}{S':Sto}{H':Hp}{b:β}{u:τ},(∀b,H b=none->H0 b=none)->d g H α' S' H' b u->d g H0 α' S' H' b u
instance:Dn Er V:={λg H α' _ H' r v=>DenE g.K H α' H' r v,λa q=>q.back a}
instance:Dn Bool Bool:={λ_ _ _ _ _ b u=>u=b,λ_ q=>q}
instance:Dn (List Er) (List V):={λg H α' _ H' r v=>ArgsE g.K H α' H' r v,λa q=>q.back a}
instance:Dn (Option Int) (Option Int):={λ_ _ _ _ _ b u=>u=b,λ_ q=>q}
abbrev XW:=Str->List (Str×MV)->Sto->List Addr->Hp->Prop
abbrev W0:XW:=λ_ _ _ _ _=>False
def Post[Dn β τ](g:Gm)(W:XW)(α:B9)(H:Hp):R β->(τ->Hp->Prop)->Prop
 |.ok b S,Q=> ∀u α' H',Ext α H α' H'->Wd g α' S H'->Dn.d g H α' S H' b u->Q u H'
 |.exc c fs S,_=> ∀α' H',Ext α H α' H'->Wd g α' S H'->W c fs S α' H'
 |.no,_=>False
section
variable[Dn β τ][Dn γ υ]
def Post.shift(x:Ext α H α' H'): ∀{m:R β}{Q},Post g W α H m Q->Post g W α' H' m Q
 |.ok b S,Q,q=>λu j D v B G=>q u j D (x.trans v) B (Dn.back (λb h=>x.free h) G)
 |.exc c fs S,_,q=>λj D v B=>q j D (x.trans v) B
 |.no,_,q=>q
def Post.bind{k:β->Sto->R γ}(q:Post g W α H (m.bind k) Q)
  (f: ∀u b B j v,m=.ok b B->Ext α H j v->Wd g j B v->Dn.d g H j B v b u->Post g W α H (k b B) Q->Q' u v):Post g W α H m Q':=by
 cases m with
 |ok b S=>exact λu j v x w d=>f u b S j v rfl x w d q
 |exc c fs S=>exact q
 |no=>exact q
def Post.here{b:β}(q:Post g W α H (.ok b S) Q)(w:Wd g α S H)(d:Dn.d g H α S H b u):Q u H:=q u α H (Ext.refl α H) w d
end
def Post.val(q:Post g W α H (.ok (Er.val d) S) Q)(w:Wd g α S H)(k:Den g.K α H d v):Q v H:=q.here w (DenE.val k)
def Post.newl(q:Post g W α H (.ok (Er.new ds) S) Q)(w:Wd g α S H)(b:H p=none)(l:DenL g.K α H ds vs):Q (.ref p) (yP H p (.lst vs)):=
 q _ α _ (w.newx b) (w.new b) {(Zo p vs rfl zM (w.fresh b) (l.ext (w.newx b))),λa e=>by cases e;exact b}
def Post.newt(q:Post g W α H (.ok (Er.val (.tup ds)) S) Q)(w:Wd g α S H)(a:H p=none)(l:DenL g.K α H ds vs):Q (.ref p) (yP H p (.tup vs)):=
 q _ α _ (w.newx a) (w.new a) (.val (nP (.of zM) (l.ext (w.newx a))))
abbrev Rho:=List (Option MV)
structure Slots(K:O0)(α:B9)(H:Hp)(ρ:Rho)(σ:St):Prop where
 len:σ.length=ρ.length
 slot: ∀(i:Nat)(d:MV),ρ[i]? =some (some d)-> ∃v,σ[i]? =some (some v)/\Den K α H d v
section
variable{K:O0}
def Slots.ex0(q:Slots K α H ρ σ)(x:Ex0 α H α' H'):Slots K α' H' ρ σ:={q.len,λi d e=>let ⟨v,a,b⟩:=q.slot i d e;(Z3 v a (b.ex0 x))}
def Slots.ext(q:Slots K α H ρ σ)(x:Ext α H α' H'):Slots K α' H' ρ σ:=q.ex0 x.toEx0
theorem Ub{α:Type}{l:List α}{x y:α}(h:(l.set i x)[j]? =some y):(j=i/\y=x/\i<l.length)\/(j≠i/\l[j]? =some y):=by
 by_cases a:i=j
 .subst a;by_cases b:i<l.length
  .rw[Ĥ b]at h;exact .inl {rfl,(è h).symm,b}
  .rw[Ĕ (by rw[Ć];lia)]at h;cases h
 .rw[ħ a]at h;exact .inr {λz=>a z.symm,h}
def Slots.set(q:Slots K α H ρ σ)(h:Den K α H d v):Slots K α H (ρ.set i (some d)) (σ.set i (some v)):=by
 refine{by rw[Ć,Ć];exact q.len,λj e z=>?_};rcases Ub z with⟨rfl,e',hl⟩|⟨hj,e'⟩
 .cases e';exact{v,by rw[Ĥ (by rw[q.len];exact hl)],h}
 .refine(q.slot j e e').a λu a b=>?_;exact{u,by rw[ħ (Ne.symm hj)];exact a,b}
end
def Jd(X:Cx)(W:XW)[Dn β τ](P:(St->Hp->(τ->Hp->Prop)->Prop)->Prop)(f:Rho->Sto->R β):Prop:=
 ∃t,P t/\ ∀α a S σ H Q,Wd X.g α S H->Slots X.K α H a σ->Post X.g W α H (f a S) Q->t σ H Q
abbrev zS(X:Cx)(W:XW)(e:Expr)(f:Rho->Sto->R Er):Prop:=Jd X W (PE X e) f
abbrev vV(X:Cx)(W:XW)(e:Expr)(f:Rho->Sto->R Bool):Prop:=Jd X W (PT X e) f
abbrev A1(X:Cx)(W:XW)(e:Expr)(f:Rho->Sto->R Bool):Prop:=Jd X W (PW X e) f
abbrev KQ(X:Cx)(W:XW)(es:N0)(f:Rho->Sto->R (List Er)):Prop:=Jd X W (PA X es) f
abbrev L4(X:Cx)(W:XW)(e:Option Expr)(f:Rho->Sto->R (Option Int)):Prop:=Jd X W (PO X e) f
section
variable{X:Cx}{W:XW}{b c:Expr}{f g:Rho->Sto->R Er}{pos:Pos}
noncomputable def Uc:Option (Option MV)->Sto->R Er
 |some (some d),S=>.ok (.val d) S
 |_,_=>.no
def L5(i:Nat)(c:X.N[i]? =some x:=by rfl)(b:zFQ X.env.scope x:=by first |exact Or.inl rfl|exact Or.inr (Or.inl rfl)|exact Or.inr (Or.inr rfl))(hd:(x==("__debug__"))=false:=by decide)
  (hcd:(x==("__classdict__"))=false:=by decide):zS X W (.Name x pos) (λρ S=>Uc (ρ[i]?) S):=by
 refine Z3 _ (pv i c b hd hcd) (λα ρ S σ H Q j sl q=>?_);dsimp only at q
 cases z:ρ[i]? with
 |none=>rw[z]at q;exact q.elim
 |some o=>
  cases o with
  |none=>rw[z]at q;exact q.elim
  |some d=>
   rw[z]at q;refine(sl.slot i d z).a λv a m=>?_;exact Z3 v a (Post.val q j m)
def L7:zS X W (.Constant (.int i) j pos) (λ_ S=>.ok (.val (.int i)) S):=(Z3 _ Lp (λα b S σ H Q a sl q=>Post.val q a (xS i)))
def zCT:zS X W (.Constant (.bool i) j pos) (λ_ S=>.ok (.val (.bl i)) S):=(Z3 _ zBO (λα b S σ H Q a sl q=>Post.val q a (bF i)))
def L8:zS X W (.Constant .none j pos) (λ_ S=>.ok (.val .non) S):=(Z3 _ (λ_ _ _ H _ I h=>Constant_none (Z2 .non H I rfl h)) (λα b S σ H Q a sl q=>Post.val q a GP))
def L9(cs)(b:x=pU cs:=by rfl):zS X W (.Constant (.str x) j pos) (λ_ S=>.ok (.val (.str cs)) S):=
 (Z3 _ (λ_ _ _ H _ I h=>Calls.Constant_str (Z2 (.str x) H (I.tok _) {_,rfl} h)) (λα c S σ H Q a sl q=>Post.val q a (by rw[b];exact sE cs)))
def Ud(b:Gl X x)(a:X.mg x=some (.int i t))(hd:(x==("__debug__"))=false:=by decide):zS X W (.Name x pos) (λ_ S=>.ok (.val (.int i)) S):=
 (Z3 _ (λ_ _ _ H _ I h=>MA I b a (Z2 (.int i) H I (⟨t,rfl⟩) h) hd) (λα j S σ H Q c sl q=>Post.val q c (xS i)))
def Mx(b:Gl X x)(a:X.mg x=none)(c:bootBuiltins x=some (.type T))(m:x≠"__name__":=by decide)(hd:(x==("__debug__"))=false:=by decide):zS X W (.Name x pos) (λ_ S=>.ok (.val (.typ T)) S):=
 (Z3 _ (λ_ _ _ H _ I h=>pT I b a c (Z2 (.ty T) H I rfl h) m hd) (λα o S σ H Q j sl q=>Post.val q j (Ez T)))
def M1:zS X W (.UnaryOp .USub (.Constant (.int i) j p3) pos) (λ_ S=>.ok (.val (.int (-i))) S):=
 (Z3 _ (zCC (unI λ_ _ _ _ _ q=>neg_int q) Lp) (λα b S σ H Q a sl q=>(Z3 i rfl (Post.val q a (xS (-i))))))
def Cj(X:Cx)(W:XW)(r:R2)(F:Er->Er->Sto->R Er):Prop:= ∀p q x y α S H Q,Wd X.g α S H->DenX X.K α H p x->DenX X.K α H q y->Post X.g W α H (F p q S) Q->r x y H Q
def two(G:Cj X W r F){o w:TE}(I: ∀α ρ S σ H Q,Wd X.g α S H->Slots X.K α H ρ σ->Post X.g W α H (f ρ S) Q->o σ H Q)
  (fb: ∀α ρ S σ H Q,Wd X.g α S H->Slots X.K α H ρ σ->Post X.g W α H (g ρ S) Q->w σ H Q)       (wd:Wd X.g α S H) (sl:Slots X.K α H ρ σ)
  (q:Post X.g W α H ((f ρ S).bind λp v=>(g ρ v).bind λq S2=>F p q S2) Q):o σ H λx j=>w σ j λy m=>r x y m Q:=
 I α ρ S σ H _ wd sl (q.bind λu p v b j N s E D A=>fb b ρ v σ j _ E (sl.ext s) ((A.shift s).bind λB p2 S2 a m M c J L C=>
  G p p2 u B a S2 m Q J (D.1.ext c) L.1 (C.shift c)))
def vW(w:OpR X (binaryOp op) r)(B:Cj X W r F)(j:zS X W a f)(c:zS X W b g):zS X W (.BinOp a op b pos) (λρ S=>(f ρ S).bind λp D=>(g ρ D).bind λq S2=>F p q S2):=by refine j.a λL j E=>?_;refine c.a λM c o=>?_;exact Z3 _ (by intro pins s σ H Q I h;exact wpAny_BinOp (G2 j c I h λv u K x y A m G C q=>w pins K σ A x y v u Q m G C q)) (λα ρ S σ H Q J sl q=>two B E o J sl q)
def Mz(w:OpR X (compareOp op) r)(C:Cj X W r F)(j:zS X W a f)(c:zS X W b g)(B:behindInMarks op b=false:=by first |exact Ma _|with_unfolding_all rfl):
  zS X W (.Compare a [op] [b] pos) (λρ S=>(f ρ S).bind λp D=>(g ρ D).bind λq S2=>F p q S2):=by
 refine j.a λM j G=>?_;refine c.a λN c o=>?_;exact Z3 _ (by intro pins s σ H Q I h;exact wpAny_Compare1 (G2 j c I h λv u L x y A m J E q=>w pins L σ A x y v u Q m J E q) B) (λα ρ S σ H Q K sl q=>two C G o K sl q)
def A2(G:IxR X r)(o:Cj X W r F)(j:zS X W a f)(c:zS X W b g)(hs:MB b:=by exact λ_ _=>rfl):
  zS X W (.Subscript a b pos) (λρ S=>(f ρ S).bind λp B=>(g ρ B).bind λq S2=>F p q S2):=by
 refine j.a λL j A=>?_;refine c.a λM c E=>?_;exact Z3 _ (by intro pins s σ H Q I h;exact Subscript_ (G2 j c I h λv u K x y m D J w q=>G a b pins K σ m x y v u Q D J w q (hs _ _))) (λα ρ S σ H Q C sl q=>two o A E C sl q)
noncomputable def jM:Er->Sto->R Bool
 |.val (.bl b),S=>.ok b S
 |_,_=>.no
def Na(q:Post X.g W α H (jM p S) Q): ∃k,p=.val (.bl k)/\Post X.g W α H (.ok k S) Q:=by
 unfold jM at q;split at q
 .exact{_,rfl,q}
 .exact q.elim
def Nb[Dn β τ]{k:Bool->Sto->R β}(q:Post X.g W α H ((jM p S).bind k) Q): ∃c,p=.val (.bl c)/\Post X.g W α H (k c S) Q:=by
 unfold jM at q;split at q
 .exact{_,rfl,q}
 .exact q.elim
def sG(ho:OpR X (compareOp op) r)(G:Cj X W r F)(w:zS X W a f)(m:zS X W b g)(hm:behindInMarks op b=false:=by first |exact Ma _|with_unfolding_all rfl):
  vV X W (.Compare a [op] [b] pos) (λρ S=>((f ρ S).bind λp B=>(g ρ B).bind λq S2=>F p q S2).bind jM):=by
 refine w.a λJ w L=>?_;refine m.a λM m Y=>?_;refine(Z3 _ (show PT X (.Compare a [op] [b] pos) (zCE (zFU r J M)) by
   rw[22]
   refine wpAny_isTrue_Compare1 (xV (w pins s σ H _ I h) λv C ⟨x,A,I1,r1,j⟩=>xV (m pins C σ A _ I1 j) λu s2 ⟨y,D,U,E,o⟩=>
    xV (ho pins s2 σ D x y v u _ U r1 E o) λc s3 ⟨z,P,I3,T,k,e,q3⟩=>?_) hm
   subst e;subst T;exact Ċ (Z3 P I3 q3)) (λα ρ S σ H Q O sl q=>?_));refine two G L Y O sl (q.bind λu p B Z A e1 N w1 K j=>?_);refine(Na (j.shift N)).a λk V o=>?_;subst V;exact{k,NV K.1,o.here w1 rfl}
def chF(F G:Er->Er->Sto->R Er)(p q:Er)(S:Sto)(k:Sto->R Er):R Er:=(F p q S).bind λz b=>(jM z b).bind λc a=>if c=true then(k a).bind λr j=>G q r j else .ok (.val (.bl false)) a
noncomputable def sH:Er->Sto->R Bool
 |.val .non,S=>.ok false S
 |.val (.bl b),S=>.ok b S
 |.val (.int i),S=>.ok (i !=0) S
 |.val (.str x),S=>if x.length<=sizeLine then .ok (!x.isEmpty) S else .no
 |.val (.tup ds),S=>.ok (!ds.isEmpty) S
 |.val (.scr ds),S=>.ok (!ds.isEmpty) S
 |.val (.loc l),S=>match S[l]? with
  |some (.lst ds)=>.ok (!ds.isEmpty) S
  |_=>.no
 |.val (.typ _),_=>.no
 |.val (.obj _ _ _),_=>.no
 |.new ds,S=>.ok (!ds.isEmpty) S
def CI{K:O0}(l:DenL K α H ds vs):(!vs.isEmpty)= !ds.isEmpty:=by have:=l.length;cases ds<;>cases vs<;>simp_all
theorem Nc(m:Wd X.g α S H)(d:DenX X.K α H p x)(q:Post X.g W α H (sH p S) Q): ∃k,H9 X.K x H k/\Q k H:=by
 match p,d,q with
 |.val .non,d,q=>cases IQ d;exact{_,rfl,q.here m rfl}
 |.val (.bl b),d,q=>cases NV d;exact Z3 _ rfl (q.here m rfl)
 |.val (.int i),d,q=>cases yM d;exact Z3 _ rfl (q.here m rfl)
 |.val (.typ n),d,q=>exact q.elim
 |.val (.obj _ _ _),d,q=>exact q.elim
 |.val (.str z),d,q=>
  cases eB d;have j:Post X.g W α H (if z.length<=sizeLine then R.ok _ S else R.no) Q:=q;split at j
  .rename_i y;refine{_,{by rw[nO];exact y,?_},j.here m rfl};rw[nO]
   cases z with
   |nil=>rfl
   |cons c r=>
    have v:((r.length:Int)+1)≠0:=by lia
    simp[v]
  .exact j.elim
 |.val (.tup ds),d,q=>
  obtain⟨a,vs,rfl,s,l⟩:=dO d;exact{_,.inr (.inl {vs,s,(CI l).symm}),q.here m rfl}
 |.val (.scr ds),d,q=>
  obtain⟨a,vs,rfl,s,l⟩:=NW d;exact{_,.inl {vs,s.l,(CI l).symm},q.here m rfl}
 |.val (.loc n),d,q=>
  obtain⟨a,rfl,h⟩:=bV d;refine(m.of h).a λo u A=>?_;have j:Post X.g W α H (match S[n]? with |some (.lst ds)=>R.ok _ S|_=>R.no) Q:=q;rw[u]at j
  cases o with
  |lst ds=>
   refine A.a λvs w l=>?_;exact Z3 _ (.inl {vs,.of w,(CI l).symm}) (j.here m rfl)
  |dic ds=>exact j.elim
  |ins c fs=>exact j.elim
  |rcd c fs=>exact j.elim
  |fdc _=>exact j.elim
 |.new ds,⟨a,vs,ex,s,n,l⟩,q=>subst ex;exact Z3 _ (.inl {vs,.of s,(CI l).symm}) (q.here m rfl)
def Nd(c:zS X W a f)(w: ∀j,isTrue a X.env j=(do let v <-j;standAt a.pos;holding [v] (truthy v)):=by intro _;rfl):vV X W a (λρ S=>(f ρ S).bind sH):=by refine c.a λJ c A=>?_;exact(Z3 _ (by
  intro pins s σ H Q I h;exact isTrue_plain (xV (c pins s σ H _ I h) λv o ⟨x,m,I1,E,b⟩=>J3 pins o σ m x v Q I1 E b) (w _)) (λα ρ S σ H Q C sl q=>A α ρ S σ H _ C sl (q.bind λu p G D m K B F y b=>Nc F y.1 (b.shift B))))
end
section
variable{c:Expr}{h:Rho->Sto->R Er}
def Ue(p:Er)(S:Sto)(k:Sto->R Er):R Er:=(jM p S).bind λc a=>if c=true then k a else .ok (.val (.bl false)) a
def orF(p:Er)(S:Sto)(k:Sto->R Er):R Er:=(jM p S).bind λc a=>if c=true then .ok (.val (.bl true)) a else k a
def M2(b:zS X W a f):zS X W (.BoolOp op [a] pos) f:=let ⟨t,h,k⟩:=b;(Z3 t (λpins s σ H Q I hw=>BoolOp_one (h pins s σ H Q I hw)) k)
def M3(o:zS X W a f)(j:zS X W (.BoolOp .And (b::es) pos) g):zS X W (.BoolOp .And (a::b::es) pos) (λρ S=>(f ρ S).bind λp v=>Ue p v λS2=>g ρ S2):=by
 refine o.a λG o D=>?_;refine j.a λI j A=>?_;refine Z3 _ (E7 o j) (λα ρ S σ H Q E sl q=>D α ρ S σ H _ E sl (q.bind λu p v m B F w s C y=>?_));refine(Nb (y.shift w)).a λk J c=>?_;subst J;refine Z3 k (NV C.1) ?_
 cases k with
 |true=>rw[iP rfl]at c ⊢; exact A m ρ v σ B _ s (sl.ext w) c
 |false=>rw[iN xF0]at c ⊢; exact Post.val c s (bF false)
def zCU(w:vV X W c tf)(y:zS X W a f)(v:zS X W b g):zS X W (.IfExp c a b pos) (λρ S=>(tf ρ S).bind λk m=>if k=true then f ρ m else g ρ m):=by
 refine w.a λL w G=>?_;refine y.a λJ y E=>?_;refine v.a λK v C=>?_;refine Z3 _ (Lq w y v) (λα ρ S σ H Q F sl q=>G α ρ S σ H _ F sl (q.bind λu p m j A I s B D o=>?_));subst D
 cases u with
 |true=>rw[iP rfl]at o ⊢; exact E j ρ m σ A _ B (sl.ext s) (o.shift s)
 |false=>rw[iN xF0]at o ⊢; exact C j ρ m σ A _ B (sl.ext s) (o.shift s)
def Ug(b:vV X W a tf):A1 X W (.BoolOp .And [a] pos) tf:=let ⟨t,h,k⟩:=b;(Z3 t (Sk h) k)
def M4(b:vV X W a tf):A1 X W (.BoolOp .Or [a] pos) tf:=let ⟨t,h,k⟩:=b;(Z3 t (E3 h) k)
theorem M5(v:vV X W a tf)(m:A1 X W (.BoolOp .And (b::es) pos) tg):A1 X W (.BoolOp .And (a::b::es) pos) (λρ S=>(tf ρ S).bind λk j=>if k=true then tg ρ j else .ok false j):=by
 refine v.a λF v C=>?_;refine m.a λG m y=>?_;refine Z3 _ (E4 v m) (λα ρ S σ H Q D sl q=>C α ρ S σ H _ D sl (q.bind λu p j o A E s w B c=>?_));subst B
 cases u with
 |true=>rw[iP rfl]at c ⊢; exact y o ρ j σ A _ w (sl.ext s) (c.shift s)
 |false=>rw[iN xF0]at c ⊢; exact(c.shift s).here w rfl
def zCV(v:vV X W a tf)(m:A1 X W (.BoolOp .Or (b::es) pos) tg):A1 X W (.BoolOp .Or (a::b::es) pos) (λρ S=>(tf ρ S).bind λk j=>if k=true then .ok true j else tg ρ j):=by
 refine v.a λF v C=>?_;refine m.a λG m y=>?_;refine Z3 _ (zBP v m) (λα ρ S σ H Q D sl q=>C α ρ S σ H _ D sl (q.bind λu p j o A E s w B c=>?_));subst B
 cases u with
 |true=>rw[iP rfl]at c ⊢; exact(c.shift s).here w rfl
 |false=>rw[iN xF0]at c ⊢; exact y o ρ j σ A _ w (sl.ext s) (c.shift s)
def zCW(h:A1 X W a tf):vV X W a tf:=let ⟨t,h,k⟩:=h;(Z3 t h.pt k)
theorem M6(b:vV X W a tf):vV X W (.UnaryOp .Not a pos) (λρ S=>(tf ρ S).bind λk m=>.ok (!k) m):=by refine b.a λE b A=>?_;refine Z3 _ (by intro pins s σ H Q I h;exact isTrue_not (b pins s σ H (λc j=>Q (!c) j) I h)) (λα ρ S σ H Q C sl q=>A α ρ S σ H _ C sl (q.bind λu p m v j D B y w o=>?_));subst w;exact(o.shift B).here y rfl
end
section
variable{K:O0}
noncomputable def zK:List Er->Sto->List MV×Sto
 |[],S=>([],S)
 |.val d::rs,S=>((d::(zK rs S).1),(zK rs S).2)
 |.new xs::rs,S=>((.loc S.length::(zK rs (S++[.lst xs])).1),(zK rs (S++[.lst xs])).2)
def ArgsE.grow(q:ArgsE K H0 α H rs vs)(n:b∉KP rs vs):ArgsE K H0 (α++[b]) H rs vs:=by
 induction q with
 |nil=>exact .nil
 |@cons r v rs vs a m l ih=>
  cases r with
  |val d=>exact .cons {Den.ex0 (Ex0.grow α [b] H) a.1,trivial} m (ih (by simpa [KP]using n))
  |new ds=>
   obtain⟨⟨c,o,rfl,w,y,s⟩,u⟩:=a;have j:=n;refine .cons {(Zo c o rfl w (λz=>?_) (s.ex0 (Ex0.grow α [b] H))),u} m (ih λz=>j (mO _ z));rcases ì.mp z with z|z
   .exact y z
   .exact j (by rw[mS.mp z];exact mF0)
theorem vX: ∀{rs}{vs}{α}{S},Wd g α S H->Ext α0 H0 α H->ArgsE g.K H0 α H rs vs->
  ∃α',Ext α0 H0 α' H/\Ex0 α H α' H/\Wd g α' (zK rs S).2 H/\DenL g.K α' H (zK rs S).1 vs
 |_,_,α,S,w,x,.nil=>{α,x,{{[],by simp},λ_ _ h=>h,λ_ _ _ h=>h},w,yA}
 |.val d::rs,v::vs,α,S,w,x,.cons a n l=>by refine(vX w x l).elim λα' k=>k.g λm j q u=>?_;exact{α',m,j,q,zT (Den.ex0 j a.1) u}
 |.new ds::rs,v::vs,α,S,w,x,.cons a n l=>by
  obtain⟨⟨c,A,rfl,y,b,o⟩,s⟩:=a;refine(vX (w.enter y b o) (w.enterx x (s c rfl) b) (l.grow (n ds c rfl rfl))).elim λα' B=>B.g λm j q u=>?_;refine{α',m,{?_,j.tup,j.frz},q,zT (oR (j.at ?_)) u}
  .obtain⟨t,e⟩:=j.pre;exact{_,by rw[e,aA]}
  .rw[<-w.len,æ (à _),sub_self];rfl
theorem IR: ∀ rs  S ,(zK rs S).1.length=↑4
 |[],S=>rfl
 |.val d::rs,S=>by show(d::(zK rs S).1).length=_;rw[lC,IR rs S];rfl
 |.new ds::rs,S=>by show(_::(zK rs _).1).length=_;rw[lC,IR rs _];rfl
end
section
variable{a b c:Expr}{g h:Rho->Sto->R Er}{pos:Pos}
def M7:KQ X W [] (λ_ S=>.ok [] S):=(Z3 _ Ca (λα b S σ H Q a sl q=>q.here a .nil))
def Uh(C:zS X W a f)(y:KQ X W es af)(hs:q9 X a es:=by rfl):KQ X W (a::es) (λρ S=>(f ρ S).bind λp v=>(af ρ v).bind λps S2=>.ok (p::ps) S2):=by
 refine C.a λU C M=>?_;refine y.a λY y G=>?_;refine Z3 _ (UL C y hs) (λα ρ S σ H Q N sl q=>M α ρ S σ H _ N sl (q.bind λu p v B L e1 o P D F=>G B ρ v σ L _ P (sl.ext o) ?_));have j:Post X.g W α H _ Q:=F
 cases z:af ρ v with
 |ok ps S2=>
  rw[z]at j;intro vs m w s A E;refine j _ m w (o.trans s) A (ArgsE.cons (DenE.ext s D) (λZ b I J K=>?_) (ArgsE.back (λb h=>o.free h) E));subst I J;obtain⟨⟨c,us,O,T,_⟩,_⟩:=D;cases O;have:=ArgsE.nones E _ K;rw[T]at this;cases this
 |exc c fs S2=>rw[z]at j;exact λm w s A=>j m w (o.trans s) A
 |no=>rw[z]at j;exact j
def yH(rs:List Er)(S:Sto):R Er:=if ↑4<=sizeLine then .ok (.val (.tup (zK rs S).1)) (zK rs S).2 else .no
def xN(rs:List Er)(S:Sto):R Er:=if ↑4<=sizeLine then .ok (.new (zK rs S).1) (zK rs S).2 else .no
def M8(h:KQ X W es af):zS X W (.Tuple es j pos) (λρ S=>(af ρ S).bind yH):=by
 refine h.a λt h k=>?_;refine Z3 _ (show PE X (.Tuple es j pos) (tTup t) by intro pins s σ H Q I D;refine wpAny_Tuple_spliced (xV (h pos pins s σ H _ I D) λG o ⟨xs,y,I1,r,z,q⟩=>{by rw[<-r.length];exact z,?_});refine Z2 (.ref o.heap.objs.size) _ (I1.laid (λb u e=>hP0 _ e) (à _) ?_) rfl (q _ (I1.hok.fresh (à _)));exact{z,G,r,{_,á _ rfl,rfl,_,rfl}}) (λα ρ S σ H Q B sl q=>k α ρ S σ H _ B sl (q.bind λvs rs A E y N j J c m=>?_));have a:Post X.g W α H (if ↑4<=sizeLine then R.ok _ (zK rs A).2 else R.no) Q:=m;split at a
 .rename_i K;refine(vX J j c).elim λw O=>O.g λF M C v=>?_;exact{by rw[ArgsE.length c];exact K,λp L=>(a.shift F).newt C L v}
 .exact a.elim
def M9(h:KQ X W es af):zS X W (.List es pos) (λρ S=>(af ρ S).bind xN):=by
 refine h.a λt h k=>?_;refine Z3 _ (show PE X (.List es pos) (tLst t) by intro pins s σ H Q I D;refine wpAny_List_spliced (xV (h pos pins s σ H _ I D) λG m ⟨xs,w,I1,r,z,q⟩=>{by rw[<-r.length];exact z,?_});refine Z2 (.ref m.heap.objs.size) _ (I1.laid (λb u e=>hP0 _ e) (à _) ?_) rfl (q _ (I1.hok.fresh (à _)));exact{z,G,0,r,á _ rfl}) (λα ρ S σ H Q B sl q=>k α ρ S σ H _ B sl (q.bind λvs rs y E w N A J c j=>?_));have a:Post X.g W α H (if ↑4<=sizeLine then R.ok _ (zK rs y).2 else R.no) Q:=j;split at a
 .rename_i K;refine(vX J A c).elim λv O=>O.g λF M C o=>?_;exact{by rw[ArgsE.length c];exact K,λp L=>(a.shift F).newl C L o}
 .exact a.elim
inductive ArgsX(K:O0)(α:B9)(H:Hp):List Er->List V->Prop
 |nil:ArgsX K α H [] []
 |cons {r v rs vs}:DenX K α H r v->ArgsX K α H rs vs->ArgsX K α H (r::rs) (v::vs)
def ArgsE.x{K:O0}: ∀{rs vs},ArgsE K H0 α H rs vs->ArgsX K α H rs vs:=λb=>by
 induction b with
 |nil=>exact .nil
 |cons a _ l ih=>exact .cons a.1 (ih)
def dH(X:Cx)(W:XW)(r:List V->Hp->VK->Prop)(F:List Er->Sto->R Er):Prop:= ∀rs vs α S H Q,Wd X.g α S H->ArgsX X.K α H rs vs->Post X.g W α H (F rs S) Q->r vs H Q
def aL{id:String}{p:Pos}(B:CallR X (.builtin id) r)(o:dH X W r F)(w:Gl X x)(C:X.mg x=none)(J:bootBuiltins x=some (.builtin id))(j:KQ X W (e::es) af)
  (hn:x≠"__name__":=by decide) (hdb:(x==("__debug__"))=false:=by decide)
  (he:q9 X e es:=by rfl) (hpl:Q2 X pos es:=by rfl):zS X W (.Call (.Name x p) (e::es) [] pos) (λρ S=>(af ρ S).bind F):=by
 refine j.a λt j k=>?_;exact(Z3 _ (by
   intro pins s σ H Q I h;refine Ņ (pT I w C J ?_ hn hdb);exact PyProof.Rows.callWith_builtin1 (xV (j pos pins s σ H _ I h) λE m ⟨vs,b,I1,D,a⟩=>B pins m σ b vs E Q I1 D a) he hpl) (λα ρ S σ H Q A sl q=>k α ρ S σ H _ A sl (q.bind λvs rs u c b K y G v a=>o rs vs c u b Q G (ArgsE.x v) (a.shift y))))
def bT{p:Pos}(j:CallR X (.type T) r)(s:dH X W r F)(w:Gl X x)(o:X.mg x=none)(A:bootBuiltins x=some (.type T))(b:KQ X W (e::es) af)
  (hn:x≠"__name__":=by decide) (hdb:(x==("__debug__"))=false:=by decide)
  (he:q9 X e es:=by rfl) (hpl:Q2 X pos es:=by rfl):zS X W (.Call (.Name x p) (e::es) [] pos) (λρ S=>(af ρ S).bind F):=by
 refine b.a λt b k=>?_;exact Z3 _ (SF j w o A b hn hdb he hpl) (λα ρ S σ H Q C sl q=>k α ρ S σ H _ C sl (q.bind λvs rs u a m D B y v c=>s rs vs a u m Q y (ArgsE.x v) (c.shift B)))
def YV(X:Cx)(W:XW)(r:V->List V->Hp->VK->Prop)(F:Er->List Er->Sto->R Er):Prop:= ∀p rs x vs α S b H Q a,Wd X.g α S H->Ext a b α H->DenX X.K α H p x->ArgsE X.K b α H rs vs->Post X.g W a b (F p rs S) Q->r x vs H Q
def TyM(X:Cx)(T:String)(a:Er->Sto->Bool):Prop:= ∀p x α S H,Wd X.g α S H->DenX X.K α H p x->a p S=true->tyV X.K T x H
def UZ{id:String}{apos:Pos}(J:PlainAttrs T)(c:Slot T name id)(v:typeOf (.builtin id)=pure (.type "method_descriptor"))(N:Th X id r)(I:YV X W r F)(O:TyM X T ty)
  (B:zS X W a f) (D:KQ X W (e::es) af)
  (hbase:attributeBase a name X.env (eval a X.env)=eval a X.env:=by rfl)
  (hfew:((backTo pos (starEach (e::es) X.env)).all (λx=>!x.1)&&(backToKw pos (keywordEach [] X.env)).all (λx=>x.1.isSome)
   &&decide ↑3)=true:=by rfl)
  (hline:(apos.endLine==pos.line)=true:=by rfl) (hs:q9 X e es:=by rfl) (hplain:Q2 X pos es:=by rfl):
  zS X W (.Call (.Attribute a name apos) (e::es) [] pos) (λρ S=>(f ρ S).bind λp j=>if ty p j=true then(af ρ j).bind λrs S2=>F p rs S2 else .no):=by
 refine B.a λY B E=>?_;refine D.a λt D k=>?_;refine Z3 _ (zCQ J c v N B D hbase hfew hline hs hplain) (λα ρ S σ H Q K sl q=>E α ρ S σ H _ K sl (q.bind λu p j b s e1 y C w m=>?_));split at m
 .rename_i U;exact{O p u b j s C w.1 U,k b ρ j σ s _ C (sl.ext y) ((m.shift y).bind λvs rs S2 o G Z A L M P=>I p rs u vs o S2 s G Q b L A (w.1.ext A) M P)}
 .exact m.elim
def Ui:L4 X W none (λ_ S=>.ok none S):=(Z3 _ (by intro pins s σ H Q I h;exact wP (Z2 none H I .none h)) (λα b S σ H Q a sl q=>q.here a rfl))
noncomputable def Sb:Er->Sto->R (Option Int)
 |.val (.int i),S=>.ok (some i) S
 |_,_=>.no
def Uj(c:zS X W a f):L4 X W (some a) (λρ S=>(f ρ S).bind Sb):=by
 refine c.a λC c s=>?_;refine Z3 _ (Tf c) (λα ρ S σ H Q w sl q=>s α ρ S σ H _ w sl (q.bind λu p B j y A v o m b=>?_));unfold Sb at b;split at b
 .exact{_,yM m.1,(b.shift v).here o rfl}
 .exact b.elim
def Sl3(X:Cx)(W:XW)(r:V->Option Int->Option Int->Hp->VK->Prop)(F:Er->Option Int->Option Int->Sto->R Er):Prop:= ∀p lo hi x α S H Q,Wd X.g α S H->DenX X.K α H p x->Post X.g W α H (F p lo hi S) Q->r x lo hi H Q
def Nf{lo:Option Expr}(N:SlR X r)(K:Sl3 X W r F)(A:zS X W a f)(y:L4 X W lo lf)(w:L4 X W hi hf):
  zS X W (.Subscript a (.Slice lo hi none p2) pos) (λρ S=>(f ρ S).bind λp j=>(lf ρ j).bind λl S2=>(hf ρ S2).bind λu v=>F p l u v):=by
 refine A.a λta A M=>?_;refine y.a λtl y fl=>?_;refine w.a λth w E=>?_
 refine(Z3 _ (Mi N A y w) (λα ρ S σ H Q O sl q=>M α ρ S σ H _ O sl (q.bind λu p j o G e1 c w1 L D=>fl o ρ j σ G _ w1 (sl.ext c) ((D.shift c).bind λZ l S2 b I e2 s T U q2=>
  E b ρ S2 σ I _ T ((sl.ext c).ext s) ((q2.shift s).bind λJ m v B P e3 C Y d3 q3=>?_)))))
 subst U;subst d3;exact K p Z J u B v P Q Y ((L.1.ext s).ext C) (q3.shift C)
end
inductive Fl where
 |next (ρ:Rho)|ret (r:Er)|brk (ρ:Rho)|cont (ρ:Rho)
abbrev AX:=Rho->Sto->R Er
abbrev AY:=Rho->Sto->R Fl
abbrev AZ:=Rho->Sto->R Bool
def PostS(g:Gm)(W:XW)(α:B9)(H:Hp)(D:Ends):R Fl->Prop
 |.ok (.next ρ) S=> ∀σ α' H',Ext α H α' H'->Wd g α' S H'->Slots g.K α' H' ρ σ->D.nx σ H'
 |.ok (.ret r) S=> ∀v α' H',Ext α H α' H'->Wd g α' S H'->DenE g.K H α' H' r v->D.rt v H'
 |.ok (.brk ρ) S=> ∀σ α' H',Ext α H α' H'->Wd g α' S H'->Slots g.K α' H' ρ σ->D.bk σ H'
 |.ok (.cont ρ) S=> ∀σ α' H',Ext α H α' H'->Wd g α' S H'->Slots g.K α' H' ρ σ->D.ct σ H'
 |.exc c fs S=> ∀α' H',Ext α H α' H'->Wd g α' S H'->W c fs S α' H'
 |.no=>False
section
def PostS.shift(x:Ext α H α' H'): ∀{m},PostS g W α H D m->PostS g W α' H' D m
 |.ok (.next ρ) S,q=>λσ j G u B I=>q σ j G (x.trans u) B I
 |.ok (.ret r) S,q=>λv j G u B J=>q v j G (x.trans u) B (J.back λb h=>x.free h)
 |.ok (.brk ρ) S,q=>λσ j G u B I=>q σ j G (x.trans u) B I
 |.ok (.cont ρ) S,q=>λσ j G u B I=>q σ j G (x.trans u) B I
 |.exc c fs S,q=>λj G u B=>q j G (x.trans u) B
 |.no,q=>q
def PostS.expr[Dn β τ]{k:β->Sto->R Fl}(q:PostS g W α H D (m.bind k))
  (f: ∀u b B j v,m=.ok b B->Ext α H j v->Wd g j B v->Dn.d g H j B v b u->PostS g W α H D (k b B)->Q' u v):Post g W α H m Q':=by
 cases m with
 |ok b S=>exact λu j v x w d=>f u b S j v rfl x w d q
 |exc c fs S=>exact q
 |no=>exact q
def PostS.stmt(q:PostS g W α H D (m.bind k))
  (hn: ∀ρ S σ j u,m=.ok (.next ρ) S->Ext α H j u->Wd g j S u->Slots g.K j u ρ σ->PostS g W α H D (k (.next ρ) S)->D'.nx σ u)
  (hr: ∀r S v j u,m=.ok (.ret r) S->Ext α H j u->Wd g j S u->DenE g.K H j u r v->PostS g W α H D (k (.ret r) S)->D'.rt v u)
  (hb: ∀ρ S σ j u,m=.ok (.brk ρ) S->Ext α H j u->Wd g j S u->Slots g.K j u ρ σ->PostS g W α H D (k (.brk ρ) S)->D'.bk σ u)
  (hc: ∀ρ S σ j u,m=.ok (.cont ρ) S->Ext α H j u->Wd g j S u->Slots g.K j u ρ σ->PostS g W α H D (k (.cont ρ) S)->D'.ct σ u):PostS g W α H D' m:=by
 cases m with
 |ok fl S=>
  cases fl with
  |next ρ=>exact λσ j u x w s=>hn ρ S σ j u rfl x w s q
  |ret r=>exact λv j u x w d=>hr r S v j u rfl x w d q
  |brk ρ=>exact λσ j u x w s=>hb ρ S σ j u rfl x w s q
  |cont ρ=>exact λσ j u x w s=>hc ρ S σ j u rfl x w s q
 |exc c fs S=>exact q
 |no=>exact q
end
def ME(X:Cx)(W:XW)(st:Stmt)(F:AY):Prop:=
 ∃t,PS X st t/\ ∀α a S σ H D,Wd X.g α S H->Slots X.K α H a σ->PostS X.g W α H D (F a S)->t D σ H
def GQ(X:Cx)(W:XW)(st:List Stmt)(F:AY):Prop:=
 ∃t,PSs X st t/\ ∀α a S σ H D,Wd X.g α S H->Slots X.K α H a σ->PostS X.g W α H D (F a S)->t D σ H
noncomputable def zD(F G:AY):AY:=λb S=>(F b S).bind λfl a=>match fl with
 |.next ρ'=>G ρ' a
 |.ret r=>.ok (.ret r) a
 |.brk ρ'=>.ok (.brk ρ') a
 |.cont ρ'=>.ok (.cont ρ') a
section
variable{X:Cx}{W:XW}{st:Stmt}{as:List Stmt}{F:AY}{g:AX}{e c:Expr}{pos:Pos}
def N1:GQ X W [] (λρ S=>.ok (.next ρ) S):=(Z3 _ (λ_ _ σ H _ I h=>wpAny_execs_nil (ZX (σ) H I h)) (λα ρ S σ H D a sl q=>q σ α H (Ext.refl α H) a sl))
def Ck(h:ME X W st F):GQ X W [st] F:=let ⟨t,h,k⟩:=h;(Z3 t (Em h) k)
def VA(E:ME X W st F)(C:GQ X W sts G):GQ X W (st::sts) (zD F G):=by
 refine E.a λt E L=>?_;refine C.a λu C O=>?_;refine(Z3 _ (by
   intro pins s σ H D I h;refine wpAny_execs_cons (xV (E pins s σ H {D with nx:=u D} I h) λf j q=>?_)
   cases f with
   |next=>
    refine q.d λB H' N q=>?_;exact C pins j B H' D N q
   |ret v=>exact q
   |brk=>exact q
   |cont=>exact q) (λα J S σ H D M sl q=>L α J S σ H _ M sl (q.stmt ?_ ?_ ?_ ?_)))
 .intro w A b a m e o y j c;exact O a w A b m D y j (PostS.shift o c)
 .intro r A v a m e o y K c;exact c v a m o y K
 .intro w A b a m e o y j c;exact c b a m o y j
 .intro w A b a m e o y j c;exact c b a m o y j
def N2(b:zS X W e f):ME X W (.Return (some e) pos) (λρ S=>(f ρ S).bind λr m=>.ok (.ret r) m):=by refine b.a λt b k=>?_;exact Z3 _ (by intro pins s σ H D I h;exact wpAny_Return_some (xV (b pins s σ H _ I h) λv C ⟨x,j,I1,o,a⟩=>(Zj x (σ) j ⟨I1,o,a⟩))) (λα ρ S σ H D B sl q=>k α ρ S σ H _ B sl (q.expr λu r m c j e A y w a=>a u c j A y w))
def Ng:ME X W st (λ_ _=>.no):=(Z3 _ Lu (λα a S σ H D b sl q=>q.elim))
def Uk(b:zS X W e f)(hs:swapsWith e none pos.line X.env=pure false:=by rfl):ME X W (.Expr e pos) (λρ S=>(f ρ S).bind λ_ m=>.ok (.next ρ) m):=by refine b.a λt b k=>?_;exact Z3 _ (by intro pins s σ H D I h;exact wpAny_Expr_any (xV (b pins s σ H _ I h) λv A ⟨x,c,I1,C,a⟩=>(ZX (σ) c I1 a)) I.quiet hs) (λα ρ S σ H D w sl q=>k α ρ S σ H _ w sl (q.expr λu r m j c e o y B a=>a σ j c o y (sl.ext o)))
def zCX(s:vV X W c tf)(v:GQ X W as F)(o:GQ X W bs G):ME X W (.If c as bs pos) (λρ S=>(tf ρ S).bind λk j=>if k=true then F ρ j else G ρ j):=by
 refine s.a λL s C=>?_;refine v.a λJ v A=>?_;refine o.a λK o B=>?_;refine Z3 _ (zBT s v o) (λα ρ S σ H D I sl q=>C α ρ S σ H _ I sl (q.expr λu p j a w e m y E b=>?_));subst E
 cases u with
 |true=>rw[iP rfl]at b ⊢; exact A a ρ j σ w D y (sl.ext m) (PostS.shift m b)
 |false=>rw[iN xF0]at b ⊢; exact B a ρ j σ w D y (sl.ext m) (PostS.shift m b)
instance:Dn Rho St:={λg _ α' _ H' a σ=>Slots g.K α' H' a σ,λ_ q=>q}
def Iu(X:Cx)(W:XW)(tg:Expr)(gf:MV->Rho->Sto->R Rho):Prop:=
 ∃t,PG X tg t/\ ∀α a S σ H d v Q,Wd X.g α S H->Slots X.K α H a σ->Den X.K α H d v->Post X.g W α H (gf d a S) Q->t v σ H Q
def Nh(X:Cx)(W:XW)(a:N0)(gf:List MV->Rho->Sto->R Rho):Prop:=
 ∃t,zBF X a t/\ ∀α c S σ H b vs Q,Wd X.g α S H->Slots X.K α H c σ->DenL X.K α H b vs->Post X.g W α H (gf b c S) Q->t vs σ H Q
noncomputable def zU(i:Nat):MV->Rho->Sto->R Rho:=λd a S=>.ok (a.set i (some d)) S
def Ul(i)(a:X.N.Nodup)(hi:X.N[i]? =some x:=by rfl)(j:Loc X.env.scope x:=by first |exact Or.inl rfl|exact Or.inr rfl)(m:Q6 X x:=by first |exact .inl rfl|exact .inr rfl|assumption):
  Iu X W (.Name x pos) (zU i):=(Z3 _ (Eo a hi j m) (λα o S σ H d v Q b sl c q=>Post.here q b (sl.set c)))
noncomputable def zZ:List MV->Rho->Sto->R Rho
 |[],ρ,S=>.ok ρ S
 |_,_,_=>.no
noncomputable def zB(b:MV->Rho->Sto->R Rho)(a:List MV->Rho->Sto->R Rho):List MV->Rho->Sto->R Rho
 |d::ds,ρ,S=>(b d ρ S).bind λj m=>a ds j m
 |_,_,_=>.no
def N3:Nh X W [] zZ:=(Z3 _ Ep (λα j S σ H a vs Q b sl c q=>by
 cases a with
 |nil=>exact{c.isnil,Post.here q b sl}
 |cons d a=>exact q.elim))
def Um(m:Iu X W e g1)(j:Nh X W es g2)(hs:(assignEach (e::es) X.env).map (·.2)=assign e X.env::(assignEach es X.env).map (·.2):=by rfl):Nh X W (e::es) (zB g1 g2):=by
 refine m.a λI m C=>?_;refine j.a λJ j E=>?_;refine Z3 _ (YL m j hs) (λα w S σ H b vs Q D sl G q=>?_)
 cases b with
 |nil=>exact q.elim
 |cons d b=>
  refine G.uncons.b λv r k a l=>?_;subst k;refine ZX v r rfl (C α w S σ H d v _ D sl a (Post.bind q λu p A c y e o F B s=>E c p A u y b r Q F B (l.ext o) (s.shift o)))
noncomputable def aM(n:Nat)(a:List MV->Rho->Sto->R Rho):MV->Rho->Sto->R Rho
 |.tup ds,ρ,S=>if ds.length=n then a ds ρ S else .no
 |_,_,_=>.no
def N4{k:Nat}(c:X.calm=true)(h:Nh X W es g2)
  (hn:(assignEach es X.env).length=n:=by rfl) (hst:(assignEach es X.env).findIdx? (·.1)=none:=by rfl):Iu X W (.Tuple es k pos) (aM n g2):=by
 refine h.a λt h k=>?_;refine Z3 _ (Lx c h hn hst) (λα b S σ H d v Q j sl o q=>?_);unfold aM at q;split at q
 .split at q
  .rename_i m;refine(bG o).b λa vs u s l=>?_;subst u;exact Zo a vs rfl s (by rw[l.length];exact m) (k α b S σ H _ vs Q j sl l q)
  .exact q.elim
 .exact q.elim
noncomputable def kM(r:Er)(S:Sto):R MV:=match r with
 |.val d=>.ok d S
 |.new ds=>.ok (.loc S.length) (S++[.lst ds])
def dP{g:Gm}(w:Wd g α S H)(x:Ext α0 H0 α H)(d:DenE g.K H0 α H r v):
  ∃j S' α',kM r S=.ok j S'/\Ext α0 H0 α' H/\Ex0 α H α' H/\Wd g α' S' H/\Den g.K α' H j v:=by
 cases r with
 |val j=>exact Y4 j S (α) rfl x {{[],by simp},λ_ _ h=>h,λ_ _ _ h=>h} w d.1
 |new ds=>
  obtain⟨⟨c,q,rfl,o,a,b⟩,m⟩:=d;exact Y4 _ _ _ rfl (w.enterx x (m c rfl) a) (Ex0.grow α [c] H) (w.enter o a b) (oR (by rw[<-w.len,æ (à _),sub_self];rfl))
def NY(ρ:Rho)(i:Nat)(r:Er)(S:Sto):R Fl:=(kM r S).bind λd a=>.ok (.next (ρ.set i (some d))) a
def N7(i){a:Pos}(o:X.N.Nodup)(c:zS X W e f)(hi:X.N[i]? =some x:=by rfl)(w:Loc X.env.scope x:=by first |exact Or.inl rfl|exact Or.inr rfl)
  (hs:swapsWith e (some (.Name x a)) pos.line X.env=pure false:=by rfl) (hf:Q6 X x:=by first |exact .inl rfl|exact .inr rfl|assumption):
  ME X W (.Assign [.Name x a] e pos) (λρ S=>(f ρ S).bind (NY ρ i)):=by
 refine c.a λt c k=>?_;refine Z3 _ (F5 o hi w c hs hf) (λα ρ S σ H D E sl q=>k α ρ S σ H _ E sl (q.expr λu r K m s e j B A b=>?_));refine(dP B j A).i λI J α' y v C F G=>?_;unfold NY at b;rw[y]at b;exact b _ α' s v F (((sl.ext j).ex0 C).set G)
def Uo(gf:MV->Rho->Sto->R Rho)(ρ:Rho)(r:Er)(S:Sto):R Fl:=(kM r S).bind λd b=>(gf d ρ b).bind λa c=>.ok (.next a) c
def N8(b:zS X W e f)(j:Iu X W tg gf)(hs:swapsWithSole [tg] e pos.line X.env=pure false:=by rfl)(hw:swappedStores [tg] e X.env=pure none:=by rfl)
  (h1:(assignEach [tg] X.env).map (·.2)=[assign tg X.env]:=by rfl):ME X W (.Assign [tg] e pos) (λρ S=>(f ρ S).bind (Uo gf ρ)):=by
 refine b.a λt b k=>?_;refine j.a λC j F=>?_;refine Z3 _ (F4 b j hs hw h1) (λα ρ S σ H D G sl q=>k α ρ S σ H _ G sl (q.expr λu r Z J y e o N E a=>?_));refine(dP N o E).i λs v α' K A O U Y=>?_;unfold Uo at a;rw[K]at a;have a:PostS X.g W α H D ((gf s ρ v).bind λP w=>.ok _ w):=a;exact F α' ρ v σ y s u _ U ((sl.ext o).ex0 O) Y ((PostS.shift A a).expr λm Q w c B e2 L I T M=>M m c B L I T)
structure Wk where
 ds:List MV
 gs:List (Nat×List MV)
def stay(gs:V0)(S:Sto):Prop:= ∀p∈gs,S[p.1]? =some (.lst p.2)
def zCY(g:Gm)(J:It)(P:List Addr->Sto->Hp->Prop)(ds:Q0):Prop:= ∀i α S H,P α S H->Wd g α S H->(i<↑11->J.go i H/\ ∀x H',J.yld i H x H'->Ext α H α H'/\Wd g α S H'/\P α S H'/\ ∃d,ds[i]? =some d/\Den g.K α H' d x)/\(↑11<=i->J.stop i H)
structure WkD(g:Gm)(α:B9)(S:Sto)(H:Hp)(k:Wk)(J:It)(P:List Addr->Sto->Hp->Prop):Prop where
 it:zCY g J P k.ds
 here:P α S H
 stays: ∀α1 S1 H1 α2 S2 H2,P α1 S1 H1->Ext α1 H1 α2 H2->Wd g α2 S2 H2->stay k.gs S2->P α2 S2 H2
 st:stay k.gs S
instance:Dn Wk It:={λg _ α S H k J=> ∃P,WkD g α S H k J P,λ_ q=>q}
abbrev NZ(X:Cx)(W:XW)(tg iter:Expr)(f:Rho->Sto->R Wk):Prop:=Jd X W (PI X tg iter) f
variable{tg iter:Expr}
theorem GR:zCY X.g (zFR X.K a) (λα S H=> ∃vs,SqL X.K H a vs/\DenL X.K α H ds vs) ds:=by intro i α S H ⟨vs,s,l⟩ w;have j:=l.length;refine{λhi=>?_,λhi=>{vs,s,by lia}};refine{(ZX vs _ s (gE #[0])),λx H' y=>?_};obtain⟨rfl,y⟩:=y;refine(l.get (y vs s)).a λd c b=>?_;exact{Ext.refl _ _,w,(Z3 vs s l),d,c,b}
theorem Fe:zCY X.g (zFS X.K a) (λα S H=> ∃vs,SqT X.K H a vs/\DenL X.K α H ds vs) ds:=by intro i α S H ⟨vs,s,l⟩ w;have j:=l.length;refine{λhi=>?_,λhi=>{vs,s,by lia}};refine{(ZX vs _ s (gE #[0])),λx H' y=>?_};obtain⟨rfl,y⟩:=y;refine(l.get (y vs s)).a λd c b=>?_;exact{Ext.refl _ _,w,(Z3 vs s l),d,c,b}
noncomputable def vI:Er->Sto->R Wk
 |.new ds,S=>.ok {ds,[]} S
 |.val (.scr ds),S=>.ok {ds,[]} S
 |.val (.loc l),S=>match S[l]? with
  |some (.lst ds)=>.ok {ds,[(l,ds)]} S
  |_=>.no
 |_,_=>.no
def kN:stay [] S:=λp h=>by simp at h
def Uq(Y:zS X W iter f):NZ X W tg iter (λρ S=>(f ρ S).bind vI):=by
 refine Y.a λt Y k=>?_;refine Z3 _ (So Y) (λα ρ S σ H Rc wd sl q=>k α ρ S σ H _ wd sl (q.bind λu p S1 aa H1 e x1 T d1 A=>?_))
 replace A:=A.shift x1
 unfold vI at A;split at A
 .rename_i S0 F;obtain⟨⟨b,vs,rfl,G,h2,U⟩,h4⟩:=d1;refine Z0 b rfl {vs,.of G} (A.here T {λj D v=> ∃vs,SqL X.K v b vs/\DenL X.K j v F vs/\v b=some (.lst vs)/\b∉j,?_,{vs,.of G,U,G,h2},?_,kN})
  .intro i j D v ⟨m,C,B,w,I⟩ O;obtain⟨E,J⟩:=GR i j D v (Z3 m C B) O;refine{λhi=>{(E hi).1,λx H' y=>?_},J};refine((E hi).2 x H' y).g λP N j3 L=>?_;obtain⟨rfl,_⟩:=y;exact{P,N,⟨m,C,B,w,I⟩,L}
  .intro j D v Q S3 H3 ⟨m,C,B,w,I⟩ x w3 _;exact{m,.of (x.keep b _ w I),B.ext x,x.keep b _ w I,x.out w I}
 .rename_i S0 F;refine(NW d1.1).b λa vs V s l=>?_;subst V;refine{a,rfl,⟨vs,s.l⟩,A.here T {λj D v=> ∃vs,SqL X.K v a vs/\DenL X.K j v F vs/\SqF X.K v a vs,?_,(Z0 vs s.l l s),?_,kN}}
  .intro i j D v ⟨m,C,B,w⟩ O;obtain⟨E,J⟩:=GR i j D v (Z3 m C B) O;refine{λhi=>{(E hi).1,λx H' y=>?_},J};refine((E hi).2 x H' y).g λP N j3 L=>?_;obtain⟨rfl,_⟩:=y;exact{P,N,(Z0 m C B w),L}
  .intro j D v Q S3 H3 ⟨m,C,B,w⟩ x w3 _;exact Z0 m ((x.sqF w).l) (B.ext x) (x.sqF w)
 .rename_i S0 n;refine(bV d1.1).a λa ac h=>?_;subst ac;refine(T.of h).a λo G h2=>?_;rw[G]at A
  cases o with
  |lst F=>
   refine h2.a λvs U l=>?_;refine Z0 a rfl {vs,.of U} (Post.here A T {λj D v=> ∃vs,SqL X.K v a vs/\DenL X.K j v F vs/\j[n]? =some a,?_,(Z0 vs (.of U) l h),?_,?_})
   .intro i j D v ⟨m,C,B,w⟩ O;obtain⟨E,J⟩:=GR i j D v (Z3 m C B) O;refine{λhi=>{(E hi).1,λx H' y=>?_},J};refine((E hi).2 x H' y).g λP N j3 L=>?_;obtain⟨rfl,_⟩:=y;exact{P,N,(Z0 m C B w),L}
   .intro j D v Q S3 H3 ⟨m,C,B,w⟩ x w3 hs;have M:=x.at w;have:=w3.obj n a _ M (hs (n,F) (by simp));refine this.a λZ b1 b2=>?_;exact Z0 Z (.of b1) b2 M
   .intro p hp;have:=by simpa using hp
    subst this;exact G
  |dic F=>exact A.elim
  |ins c fs=>exact A.elim
  |rcd c fs=>exact A.elim
  |fdc _=>exact A.elim
 .exact A.elim
noncomputable def SR:Er->Sto->R Wk
 |.val (.tup ds),S=>.ok {ds,[]} S
 |_,_=>.no
def N9(c:zS X W iter f):NZ X W tg iter (λρ S=>(f ρ S).bind SR):=by
 refine c.a λt c k=>?_;refine Z3 _ (F9 c) (λα ρ S σ H O y sl q=>k α ρ S σ H _ y sl (q.bind λu p G A E e w B v b=>?_))
 replace b:=b.shift w
 unfold SR at b;split at b
 .rename_i M L;refine(dO v.1).b λa vs P s l=>?_;subst P;exact Z0 a rfl ⟨vs,s⟩ (b.here B {_,Fe,(Z3 vs s l),λm N F D I J ⟨j,o,C⟩ x K _=>(Z3 j (x.sqT o) (C.ext x)),kN})
 .exact b.elim
noncomputable def iW:List Er->Sto->R Wk
 |[.val (.int j)],S=>if -(2 ^ 62)<=j/\j<2 ^ 62 then .ok {(List.range j.toNat).map λk=>.int (k:Nat),[]} S else .no
 |_,_=>.no
variable{p:Pos}{a:Expr}
def OA{K:O0}(d:ArgsE K H0 α H [r] vs): ∃v,vs=[v]/\DenX K α H r v:=by
 cases d with
 |cons a n l=>cases l;exact Z3 _ rfl a.1
def A3{K:O0}(d:ArgsE K H0 α H [r,r'] vs): ∃v u,vs=[v,u]/\DenX K α H r v/\DenX K α H r' u:=by
 cases d with
 |cons a n l=>refine(OA l).a λu j b=>?_;subst j;exact Z2 _ u rfl a.1 b
def Iw(s:Gl X "range")(D:X.mg "range"=none)(c:KQ X W [a] af)(hs:starEach [a] X.env=[(false,eval a X.env)]:=by rfl):NZ X W tg (.Call (.Name "range" p) [a] [] pos) (λρ S=>(af ρ S).bind iW):=by
 refine c.a λt c k=>?_;refine Z3 _ (Hy s D c hs) (λα ρ S σ H J A sl q=>k α ρ S σ H _ A sl (q.bind λvs rs G C F e u E o b=>?_))
 replace b:=b.shift u
 unfold iW at b;split at b
 .split at b
  .rename_i I j m;refine(OA o).a λv K B=>?_;subst K;cases yM B;have:=(show zCY X.g (zFT 0 (j.toNat)) (λ_ _ _=>True) ((List.range (j.toNat)).map λk=>.int (0+(k:Nat))) by intro i α S H _ w;refine{λhi=>{show i<(j.toNat) by simpa using hi,λv H' y=>?_},λhi=>by show (j.toNat)<=i;simpa using hi};obtain⟨rfl,y⟩:=y;refine{Ext.refl _ _,w,trivial,_,by rw[ë,getElem?_range (by simpa using hi)];rfl,?_};rw[y];exact xS _);simp only[Int.zero_add]at this;exact{j,rfl,m.1,m.2,b.here E {_,this,trivial,λ_ _ _ _ _ _ _ _ _ _=>trivial,kN}}
  .exact b.elim
 .exact b.elim
open Classical in
noncomputable def wO(gf:MV->Rho->Sto->R Rho)(body:AY)(gs:V0):List MV->AY
 |[],ρ,S=>.ok (.next ρ) S
 |d::ds,ρ,S=>(gf d ρ S).bind λm q=>(body m q).bind λfl j=>match fl with
  |.next ρ'=>if stay gs j then wO gf body gs ds ρ' j else .no
  |.cont ρ'=>if stay gs j then wO gf body gs ds ρ' j else .no
  |.brk ρ'=>.ok (.next ρ') j
  |.ret r=>.ok (.ret r) j
open Classical in
def O1{ab:Rho->Sto->R Wk}{gf:MV->Rho->Sto->R Rho}(hp:PassesOwn ↑5 X.A X.env X.xe)(hc:X.calm=true)(hi:NZ X W tg iter ab)(hg:Iu X W tg gf)(hb:GQ X W as F)
  (hs: ∀y,foldedSetIterable iter X.env y=pure y:=by intro _;rfl):ME X W (.For tg iter as [] pos) (λρ S=>(ab ρ S).bind λk S1=>wO gf F k.gs k.ds ρ S1):=by
 obtain⟨wi,hi,ki⟩:=hi;obtain⟨aj,hg,kg⟩:=hg;obtain⟨tb,hb,kb⟩:=hb;refine{_,G1 hp hc hi hg hb hs,λα ρ S σ H D wd sl q=>ki α ρ S σ H _ wd sl (q.expr λJ k S1 ag H1 e x1 w1 d1 q1=>?_)};obtain⟨P,hP⟩:=d1;have ah:=sl.ext x1
 replace q1:=PostS.shift x1 q1
 refine{λn m M N=>m=k.ds.length - n/\n<=k.ds.length/\ ∃b G S2,Wd X.g b S2 N/\Slots X.K b N G M/\P b S2 N/\PostS X.g W b N D (wO gf F k.gs (k.ds.drop n) G S2),{_,rfl,zero_le _,ag,ρ,S1,w1,ah,hP.here,by simpa using q1},?_};rintro n m M N ⟨rfl,hn,b,G,S2,w2,ae,p2,Q⟩;obtain⟨i1,i2⟩:=hP.it n b S2 N p2 w2;by_cases C:n<k.ds.length
 .obtain⟨go,yl⟩:=i1 C;refine .inr {go,λaa L=> ∃s I S3,Wd X.g s S3 L/\Slots X.K s L I aa/\P s S3 L/\PostS X.g W s L D (wO gf F k.gs (k.ds.drop (n+1)) I S3),λaa L ⟨s,I,S3,h3⟩=>{k.ds.length - (n+1),by omega,rfl,C,s,I,S3,h3},λv L y=>?_};obtain⟨x3,w3,p3,d,hd,dv⟩:=yl v L y;have Z:k.ds.drop n=d::k.ds.drop (n+1):=by rw[ĕ C];have:=gE C;rw[hd]at this;rw[<-è this]
  rw[Z]at Q;unfold wO at Q
  replace Q:=PostS.shift x3 Q
  refine kg b G S2 M L d v _ w3 (ae.ext x3) dv (Q.expr λai af S4 E H4 e4 x4 w4 s4 q4=>?_);have p4: ∀a c H5,Ext E H4 a H5->Wd X.g a c H5->stay k.gs c->P a c H5:=λa c H5 B u U=>hP.stays b S2 L a c H5 p3 (x4.trans B) u U;refine kb E af S4 ai H4 _ w4 s4 ((PostS.shift x4 q4).stmt ?_ ?_ ?_ ?_)
  .intro o c T a H5 e5 B u U O;have j:PostS X.g W E H4 D (if stay k.gs c then wO gf F k.gs (k.ds.drop (n+1)) o c else .no):=O;split at j
   .rename_i Y;exact{a,o,c,u,U,p4 a c H5 B u Y,PostS.shift B j}
   .exact j.elim
  .intro r c v5 a H5 e5 B u d5 O;exact O v5 a H5 B u d5
  .intro o c T a H5 e5 B u U O;exact O T a H5 B u U
  .intro o c T a H5 e5 B u U O;have j:PostS X.g W E H4 D (if stay k.gs c then wO gf F k.gs (k.ds.drop (n+1)) o c else .no):=O;split at j
   .rename_i Y;exact{a,o,c,u,U,p4 a c H5 B u Y,PostS.shift B j}
   .exact j.elim
 .have e:n=k.ds.length:=by omega
  subst e;refine .inl {i2 (à _),?_};rw[drop_length]at Q;exact Q M b N (Ext.refl _ _) w2 ae
noncomputable def EU(t:AZ)(b:AY):Nat->AY
 |0,_,_=>.no
 |n+1,ρ,S=>(t ρ S).bind λk j=>if k=true then(b ρ j).bind λfl S2=>match fl with
   |.next ρ'=>EU t b n ρ' S2
   |.cont ρ'=>EU t b n ρ' S2
   |.brk ρ'=>.ok (.next ρ') S2
   |.ret r=>.ok (.ret r) S2
  else .ok (.next ρ) j
def Ni(N)(hp:PassesOwn ↑5 X.A X.env X.xe)(Q:vV X W c tf)(P:GQ X W as F):ME X W (.While c as [] pos) (λρ S=>EU tf F N ρ S):=by
 refine Q.a λtc Q kc=>?_;refine P.a λtb P kb=>?_;refine Z3 _ (Ly hp Q P) (λα ρ S σ H D wd sl q=>{λm b J=> ∃j o O,Wd X.g j O J/\Slots X.K j J o b/\PostS X.g W j J D (EU tf F m o O),(ZB N (α) (ρ) S ⟨wd,sl,q⟩),?_});rintro m b J ⟨j,o,O,w1,v,Y⟩
 cases m with
 |zero=>exact Y.elim
 |succ n=>
  refine kc j o O b J _ w1 v (Y.expr λu p S2 I Z e2 U w2 d2 L=>?_);subst d2
  replace L:=PostS.shift U L
  cases u with
  |false=>rw[iN xF0]at L ⊢; exact L b I Z (Ext.refl _ _) w2 (v.ext U)
  |true=>
   refine{λab H3=> ∃af aa S3,_,λae H' h=>(Z3 n (Nat.lt_succ_self n) h),kb I o S2 b Z _ w2 (v.ext U) (L.stmt ?_ ?_ ?_ ?_)}
   .intro s M E a H5 T B y G C;exact{a,s,M,y,G,PostS.shift B C}
   .intro r M v5 a H5 T B y d5 C;exact C v5 a H5 B y d5
   .intro s M E a H5 T B y G C;exact C E a H5 B y G
   .intro s M E a H5 T B y G C;exact{a,s,M,y,G,PostS.shift B C}
end
noncomputable def noX:R β->R β
 |.ok b S=>.ok b S
 |_=>.no
theorem yN(b:β)(S):noX (R.ok b S)=.ok b S:=rfl
def Post.bindY[Dn β τ][Dn γ υ]{g:Gm}{W:XW}{α α':B9}{H H':Hp}(x:Ext α H α' H'){m:R β}{k:β->Sto->R γ}{Q:υ->Hp->Prop}{a:τ->Hp->Prop}(q:Post g W α H ((noX m).bind k) Q)
  (f: ∀u b B j v,m=.ok b B->Ext α' H' j v->Wd g j B v->Dn.d g H' j B v b u->Post g W α H (k b B) Q->a u v):Post g W0 α' H' m a:=by
 cases m with
 |ok b S=>exact λu j v x w d=>f u b S j v rfl x w d q
 |exc c fs S=>exact q.elim
 |no=>exact q
theorem R.bind_assoc(m:R β)(k1)(a:γ->Sto->R δ):(m.bind k1).bind a=m.bind λb S=>(k1 b S).bind a:=by cases m<;>rfl
noncomputable def IT(nt:Nat)(a:Db)(ρ:Rho):Rho:=List.replicate nt none++a.map λi=>(ρ[i]?).join
open Classical in
def zV(gf:MV->Rho->Sto->R Rho)(cf:AZ)(ef:AX)(ρb:Rho)(gs:V0):List MV->Sto->R (List MV)
 |[],S=>.ok [] S
 |d::ds,S=>(noX (gf d ρb S)).bind λj u=>(noX (cf j u)).bind λk m=>
  if k=true then(noX (ef j m)).bind λr S2=>(kM r S2).bind λy q=>if stay gs q then(zV gf cf ef ρb gs ds q).bind λout v=>.ok (y::out) v else .no
  else if stay gs m then zV gf cf ef ρb gs ds m else .no
theorem Iy{K:O0}(q:Slots K α H ρ σ)(nt)(idx)(τ)(a:τ.length=nt):Slots K α H (IT nt idx ρ) (τ++IL σ idx):=by
 refine{by unfold IT;rw[lA,lA,oQ,lM,Đ,a],λi d e=>?_};unfold IT at e;by_cases hi:i<nt
 .rw[ã (by rw[Đ];exact hi),List.getElem?_replicate]at e;split at e<;>cases e
 .rw[æ (by rw[Đ];lia),Đ,ë]at e
  cases z:idx[i - nt]? with
  |none=>rw[z]at e;cases e
  |some k=>
   rw[z]at e;have b:(ρ[k]?).join=some d:=è e
   cases c:ρ[k]? with
   |none=>rw[c]at b;cases b
   |some o=>
    rw[c]at b;subst b;refine(q.slot k d c).a λv j m=>?_;refine Z3 v ?_ m;rw[æ #[0],a];unfold IL;rw[ë,z];show some (σ[k]?).join=some _;rw[j];rfl
def Keeps(nt:Nat)(σ:St)(Q:St->Hp->Prop):St->Hp->Prop:=λa H'=>a.length=σ.length->(∀j,nt<=j->a[j]? =σ[j]?)->Q a H'
def Nj(nt:Nat)(X:Cx)(W:XW)(tg:Expr)(gf:MV->Rho->Sto->R Rho):Prop:=
 ∃t,PG X tg t/\ ∀α a S σ H d v Q,Wd X.g α S H->Slots X.K α H a σ->Den X.K α H d v->Post X.g W α H (gf d a S) (Keeps nt σ Q)->t v σ H Q
def Nk(nt:Nat)(X:Cx)(W:XW)(a:N0)(gf:List MV->Rho->Sto->R Rho):Prop:=
 ∃t,zBF X a t/\ ∀α c S σ H b vs Q,Wd X.g α S H->Slots X.K α H c σ->DenL X.K α H b vs->Post X.g W α H (gf b c S) (Keeps nt σ Q)->t vs σ H Q
section
variable{X:Cx}{W:XW}{pos:Pos}{nt:Nat}
theorem Ur(i)(a:X.N.Nodup)(hi:X.N[i]? =some x:=by rfl)(b:Loc X.env.scope x:=by first |exact Or.inl rfl|exact Or.inr rfl)(s:Q6 X x:=by first |exact .inl rfl|exact .inr rfl|assumption)(c:i<nt:=by decide):
  Nj nt X W (.Name x pos) (zU i):=(Z3 _ (Eo a hi b s) (λα u S σ H d v Q m sl o q=>Post.here q m (sl.set o) (by rw[Ć]) λj w=>by rw[ħ #[0]]))
def O2:Nk nt X W [] zZ:=(Z3 _ Ep (λα j S σ H a vs Q b sl c q=>by
 cases a with
 |nil=>exact{c.isnil,Post.here q b sl rfl λ_ _=>rfl}
 |cons d a=>exact q.elim))
def Post.keeps{m:R Rho}(A:σ1.length=σ.length)(B: ∀j,nt<=j->σ1[j]? =σ[j]?)(q:Post g W α H m (Keeps nt σ Q)):Post g W α H m (Keeps nt σ1 Q):=by
 cases m with
 |ok b S=>exact λu a v x w d s y=>q u a v x w d (s.trans A) λj o=>(y j o).trans (B j o)
 |exc c fs S=>exact q
 |no=>exact q
def Us(s:Nj nt X W e g1)(o:Nk nt X W es g2)(hs:(assignEach (e::es) X.env).map (·.2)=assign e X.env::(assignEach es X.env).map (·.2):=by rfl):Nk nt X W (e::es) (zB g1 g2):=by
 refine s.a λJ s c=>?_;refine o.a λK o F=>?_;refine Z3 _ (YL s o hs) (λα A S σ H j vs Q E sl I q=>?_)
 cases j with
 |nil=>exact q.elim
 |cons d j=>
  refine I.uncons.b λv r k a l=>?_;subst k;refine ZX v r rfl (c α A S σ H d v _ E sl a (Post.bind q λu p C m B e w G D y c b=>F m p C u B j r Q G D (l.ext w) (Post.keeps c b (y.shift w))))
def O3{k:Nat}(c:X.calm=true)(h:Nk nt X W es g2)
  (hn:(assignEach es X.env).length=n:=by rfl) (hst:(assignEach es X.env).findIdx? (·.1)=none:=by rfl):Nj nt X W (.Tuple es k pos) (aM n g2):=by
 refine h.a λt h k=>?_;refine Z3 _ (Lx c h hn hst) (λα b S σ H d v Q j sl o q=>?_);unfold aM at q;split at q
 .split at q
  .rename_i m;refine(bG o).b λa vs u s l=>?_;subst u;exact Zo a vs rfl s (by rw[l.length];exact m) (k α b S σ H _ vs Q j sl l q)
  .exact q.elim
 .exact q.elim
end
abbrev VB(X:Cx)(W:XW)(a:N0)(f:AZ):Prop:=Jd X W (Im X a) f
section
variable{X:Cx}{W:XW}{iter:Expr}{c:Expr}{pos:Pos}
def Ut:VB X W [] (λ_ S=>.ok true S):=(Z3 _ (λ_ _ _ H _ I h=>wpAny_tests_nil (Z3 H I h)) (λα b S σ H Q a sl q=>q.here a rfl))
def Uu(h:vV X W c tf):VB X W [c] tf:=let ⟨t,h,k⟩:=h;(Z3 t (λpins s σ H Q I q=>wpAny_tests_one (h pins s σ H Q I q)) k)
open Classical in
def Ff{C:Cx->Prop}{ae tg:Expr}{af:N0}{sc:Scope}{aj:Rho->Sto->R Wk}{cf:AZ}{ef:AX}{gf:MV->Rho->Sto->R Rho}(ak:Scope)(N:D0)(T:D0)(a:Db)
  (hi:Jd X W (zBY C X tg iter) aj) (hCx: ∀c B Z fp pins σ,Inv X pins σ Z B->C (zP X sc T a c B Z fp))
  (hg: ∀C B G fp,([]++T++a.map λi=>(N[i]?).getD Str.empty).Nodup->Nj T.length (zP X sc T a C B G fp) W0 tg gf)
  (hc: ∀C B G fp,VB (zP X sc T a C B G fp) W0 af cf) (he: ∀C B G fp,zS (zP X sc T a C B G fp) W0 ae ef)
  (e1:X.env.scope=ak:=by rfl) (e2:X.N=N:=by rfl) (hB:vS ak N sc a=true:=by decide+kernel) (hN:([]++T++a.map λi=>(N[i]?).getD Str.empty).Nodup:=by decide+kernel)
  (hs: ∀y,foldedSetIterable iter X.env y=pure y:=by intro _;rfl):
  Jd (β:=Er) (τ:=V) X W (λt=>PE X (.ListComp ae [{tg,iter,af,0}] sc pos) t/\PU X (.ListComp ae [{tg,iter,af,0}] sc pos) t) (λρ S=>(aj ρ S).bind λk S1=>if k.ds.length<1000000 then(zV gf cf ef (IT T.length a ρ) k.gs k.ds S1).bind λout S2=>.ok (.new out) S2 else .no):=by
 obtain⟨wi,hi,ki⟩:=hi;subst e1 e2;have a0:(1000000:Nat)<sizeLine:=by rw[ý];decide
 have av: ∃t,(∀C B G fp,PG (zP X sc T a C B G fp) tg t)/\ ∀α ρ S σ H d v Q,Wd X.g α S H->Slots X.K α H ρ σ->Den X.K α H d v->Post X.g W0 α H (gf d ρ S) (Keeps T.length σ Q)->t v σ H Q:=by refine{λv σ H Q=> ∃α ρ S d,Wd X.g α S H/\Slots X.K α H ρ σ/\Den X.K α H d v/\Post X.g W0 α H (gf d ρ S) (Keeps T.length σ Q),λC B G fp pins s σ H v u Q I r ⟨α,ρ,S,d,h1,h2,h3,h4⟩=>?_,λα ρ S σ H d v Q h1 h2 h3 h4=>⟨α,ρ,S,d,h1,h2,h3,h4⟩};obtain⟨t,ht,kt⟩:=hg C B G fp hN;exact ht pins s σ H v u Q I r (kt α ρ S σ H d v Q h1 h2 h3 h4)
 obtain⟨a3,ao,kg⟩:=av;refine{_,{Tt T a hi hCx hB ao (λC B G fp=>(ā (hc C B G fp)).1) (λC B G fp=>(ā (he C B G fp)).1) hs,Tx T a hi hCx hB ao (λC B G fp=>(ā (hc C B G fp)).1) (λC B G fp=>(ā (he C B G fp)).1) hs},λα ρ S σ H Q wd sl q=>ki α ρ S σ H _ wd sl (q.bind λJ k S1 au G e1 x1 w1 d1 q1=>?_)};obtain⟨P,hP⟩:=d1;split at q1
 .rename_i ax
  refine{λn m ys Z=>m=k.ds.length - n/\n<=k.ds.length/\ys.length<=n/\ ∃E S2,Ext α H E Z/\Wd X.g E S2 Z/\P E S2 Z/\ ∃w,DenL X.K E Z w ys/\Post X.g W α H ((zV gf cf ef (IT T.length a ρ) k.gs (k.ds.drop n) S2).bind λo F=>.ok (Er.new (w++o)) F) Q,
   {_,rfl,zero_le _,à _,au,S1,x1,w1,hP.here,[],yA,by simpa using q1},?_}
  rintro n m ys Z ⟨rfl,hn,hy,E,S2,x2,w2,p2,w,l,q2⟩;obtain⟨i1,i2⟩:=hP.it n E S2 Z p2 w2;refine{by omega,?_};by_cases L:n<k.ds.length
  .obtain⟨go,yl⟩:=i1 L;refine .inr {go,by omega,λv H3 y τ aa=>?_};obtain⟨x3,w3,p3,d,hd,dv⟩:=yl v H3 y;have ag:k.ds.drop n=d::k.ds.drop (n+1):=by rw[ĕ L];have:=gE L;rw[hd]at this;rw[<-è this]
   rw[ag]at q2;unfold zV at q2;have ar:=Iy (sl.ext (x2.trans x3)) T.length a τ aa;refine kg E (IT T.length a ρ) S2 _ H3 d v _ w3 ar dv ?_;rw[R.bind_assoc]at q2;refine q2.bindY (x2.trans x3) λU aq S4 ah H4 e4 x4 w4 s4 q4 ab aw=>{{U.take T.length,?_,?_},λC B fp=>?_}
   .refine ŉ λj=>?_;have a4:U.length=T.length+a.length:=by rw[ab,lA,oQ,aa]
    by_cases hj:j<T.length
    .rw[ã (by rw[lT];omega),List.getElem?_take_of_lt hj]
    .rw[aw j (by omega),æ (by omega),æ (by rw[lT];omega),aa,lT,min_eq_left (by omega)]
   .rw[lT,ab,lA,oQ,aa];omega
   have O:Ext α H ah H4:=(x2.trans x3).trans x4;have p4: ∀A Y H5,Ext ah H4 A H5->Wd X.g A Y H5->stay k.gs Y->P A Y H5:=λA Y H5 M w5 s5=>hP.stays E S2 H3 A Y H5 p3 (x4.trans M) w5 s5;rw[R.bind_assoc]at q4;refine(ā (hc C B G fp)).2 ah aq S4 U H4 _ w4 s4 (q4.bindY O λb5 az Y A H5 e5 M w5 d5 q5=>?_);cases d5
   cases b5 with
   |false=>
    rw[iN xF0]at q5 ⊢;split at q5
    .rename_i ai;exact{k.ds.length - (n+1),by omega,rfl,L,by omega,A,Y,O.trans M,w5,p4 A Y H5 M w5 ai,w,(l.ext (x3.trans x4)).ext M,q5}
    .exact q5.elim
   |true=>
    rw[iP rfl,R.bind_assoc]at q5;rw[iP rfl];refine(ā (he C B G fp)).2 A aq Y U H5 _ w5 (s4.ext M) (q5.bindY (O.trans M) λy6 r6 S6 ay H6 e6 x6 w6 d6 q6=>?_);obtain⟨d',F,α',e7,x7,y7,w7,de⟩:=dP w6 x6 d6;rw[e7]at q6;have q6:Post X.g W α H ((if stay k.gs F then(zV gf cf ef (IT T.length a ρ) k.gs (k.ds.drop (n+1)) F).bind λout S4=>.ok (d'::out) S4 else .no).bind λo F=>.ok (Er.new (w++o)) F) Q:=q6;split at q6
    .rename_i ai;refine{k.ds.length - (n+1),by omega,rfl,L,by rw[lA,lS];omega,α',F,(O.trans M).trans x7,w7,p4 α' F H6 (M.trans x7) w7 ai,w++[d'],((l.ext (x3.trans x4)).ext (M.trans x7)).append (zT de yA),?_};rw[R.bind_assoc]at q6;have e8:(λ(o:Q0) (F:Sto)=>R.ok (Er.new ((w++[d'])++o)) F)=(λ(b:Q0) S=>(R.ok (d'::b) S).bind λo F=>.ok (Er.new (w++o)) F):=by funext o F;show _=R.ok (Er.new (w++(d'::o))) F;rw[aA];rfl
     rw[e8];exact q6
    .exact q6.elim
  .have e:n=k.ds.length:=by omega
   subst e;rw[drop_length]at q2;have q3:Post X.g W α H (.ok (Er.new (w++[])) S2) Q:=q2;rw[aN]at q3;exact .inl {i2 (à _),λD hD=>(q3.shift x2).newl w2 hD l}
 .exact q1.elim
open Classical in
def Fg{m tg:Expr}{o:N0}{c:Scope}{s:Rho->Sto->R Wk}{cf:AZ}{ef:AX}{gf:MV->Rho->Sto->R Rho}(b:Scope)(N:D0)(T:D0)(a:Db)
  (hi:NZ X W tg iter s) (hcalm:X.calm=true)
  (hg: ∀C j q fp,([]++T++a.map λi=>(N[i]?).getD Str.empty).Nodup->Nj T.length (zP X c T a C j q fp) W0 tg gf)
  (hc: ∀C j q fp,VB (zP X c T a C j q fp) W0 o cf) (he: ∀C j q fp,zS (zP X c T a C j q fp) W0 m ef)
  (e1:X.env.scope=b:=by rfl) (e2:X.N=N:=by rfl) (hB:vS b N c a=true:=by decide+kernel) (hN:([]++T++a.map λi=>(N[i]?).getD Str.empty).Nodup:=by decide+kernel)
  (hs: ∀y,foldedSetIterable iter X.env y=pure y:=by intro _;rfl):
  zS X W (.ListComp m [{tg,iter,o,0}] c pos) (λρ S=>(s ρ S).bind λk u=>if k.ds.length<1000000 then(zV gf cf ef (IT T.length a ρ) k.gs k.ds u).bind λout S2=>.ok (.new out) S2 else .no):=let ⟨t,h,k⟩:=(Ff b N T a hi (λ_ _ _ _ _ _ _=>hcalm) hg hc he e1 e2 hB hN hs);{t,h.1,k}
open Classical in
def Uv{x:Str}{c b:Pos}(i:Nat)(E:X.N.Nodup){m tg:Expr}{o:N0}{w:Scope}{A:Rho->Sto->R Wk}{cf:AZ}{ef:AX}{gf:MV->Rho->Sto->R Rho}(s:Scope)(N:D0)(T:D0)(a:Db)
  (hi:NZ X W tg iter A) (hcalm:X.calm=true)
  (hg: ∀C j v fp,([]++T++a.map λi=>(N[i]?).getD Str.empty).Nodup->Nj T.length (zP X w T a C j v fp) W0 tg gf)
  (hc: ∀C j v fp,VB (zP X w T a C j v fp) W0 o cf) (he: ∀C j v fp,zS (zP X w T a C j v fp) W0 m ef)
  (G:X.env.scope=s:=by rfl) (e2:X.N=N:=by rfl) (hB:vS s N w a=true:=by decide+kernel) (hN:([]++T++a.map λi=>(N[i]?).getD Str.empty).Nodup:=by decide+kernel)
  (hs: ∀y,foldedSetIterable iter X.env y=pure y:=by intro _;rfl)
  (hi2:X.N[i]? =some x:=by rfl) (hx:Loc X.env.scope x:=by first |exact Or.inl rfl|exact Or.inr rfl)
  (hsw:swapsWith (.ListComp m [{tg,iter,o,0}] w pos) (some (.Name x c)) b.line X.env=pure true:=by with_unfolding_all rfl) (hf:Q6 X x:=by first |exact .inl rfl|exact .inr rfl|assumption):
  ME X W (.Assign [.Name x c] (.ListComp m [{tg,iter,o,0}] w pos) b) (λρ S=>((A ρ S).bind λk I=>if k.ds.length<1000000 then(zV gf cf ef (IT T.length a ρ) k.gs k.ds I).bind λout S2=>.ok (.new out) S2 else .no).bind (NY ρ i)):=by
 obtain⟨t,h,k⟩:=(Ff s N T a hi (λ_ _ _ _ _ _ _=>hcalm) hg hc he G e2 hB hN hs)
 refine{_,h.2 i x c b E hi2 hx hf hsw,λα ρ S σ H D L sl q=>k α ρ S σ H _ L sl (q.expr λu r I M v e F O K B=>?_)};obtain⟨Y,Z,α',G,J,P,Q,U⟩:=dP O F K;unfold NY at B;rw[G]at B;exact B _ α' v J Q (((sl.ext F).ex0 P).set U)
end
mutual
def lo(n:Nat):MV->Prop
 |.loc l=>l<n
 |.tup ds=>vO n ds
 |.scr ds=>vO n ds
 |.obj _ _ ds=>vO n ds
 |_=>True
def vO(n:Nat):List MV->Prop
 |[]=>True
 |d::ds=>lo n d/\vO n ds
end
def loO(n:Nat):MO->Prop
 |.lst ds=>vO n ds
 |.dic kvs=> ∀p∈kvs,lo n p.1/\lo n p.2
 |.ins _ fs=> ∀p∈fs,lo n p.2
 |.rcd _ fs=> ∀p∈fs,lo n p.2
 |.fdc kvs=> ∀p∈kvs,lo n p.1/\lo n p.2
section
variable{K:O0}{α t:B9}{H:Hp}
mutual
theorem Den.back: ∀{d:MV}{v:V},Den K (α++t) H d v->lo α.length d->Den K α H d v
 |.non,_,q,_=>by cases UY q;exact GP
 |.bl _,_,q,_=>by cases SQ q;exact bF _
 |.int _,_,q,_=>by cases iV q;exact xS _
 |.str _,_,q,_=>by cases sF q;exact sE _
 |.typ _,_,q,_=>by cases NU q;exact Ez _
 |.obj c ns ds,_,q,h=>by obtain⟨a,C,B,vs,o,rfl,e,u,m,j,l⟩:=IO q;exact Fc e u m j (DenL.back l (by unfold lo at h;exact h))
 |.loc l,_,q,h=>by
  obtain⟨a,rfl,e⟩:=ET q;have j:l<α.length:=by unfold lo at h;exact h
  rw[ã j]at e;exact oR e
 |.tup ds,_,q,h=>by obtain⟨a,vs,rfl,s,l⟩:=bG q;exact nP s (DenL.back l (by unfold lo at h;exact h))
 |.scr ds,_,q,h=>by obtain⟨a,vs,rfl,s,l⟩:=IP q;exact Fa s (DenL.back l (by unfold lo at h;exact h))
theorem DenL.back: ∀{ds:Q0}{vs:List V},DenL K (α++t) H ds vs->vO α.length ds->DenL K α H ds vs
 |[],_,q,_=>by rw[q.isnil];exact yA
 |d::ds,_,q,h=>by obtain⟨v,r,rfl,a,l⟩:=q.uncons;unfold vO at h;exact zT (Den.back a h.1) (DenL.back l h.2)
end
mutual
theorem Den.lo: ∀{d:MV}{v:V},Den K α H d v->lo α.length d
 |.non,_,q=>by unfold M.lo;trivial
 |.bl _,_,q=>by unfold M.lo;trivial
 |.int _,_,q=>by unfold M.lo;trivial
 |.str _,_,q=>by unfold M.lo;trivial
 |.typ _,_,q=>by unfold M.lo;trivial
 |.obj c ns ds,_,q=>by obtain⟨a,C,j,vs,o,rfl,e,B,m,u,l⟩:=IO q;unfold M.lo;exact DenL.lo l
 |.loc l,_,q=>by obtain⟨a,rfl,e⟩:=ET q;unfold M.lo;exact(gS.mp e).1
 |.tup ds,_,q=>by obtain⟨a,vs,rfl,s,l⟩:=bG q;unfold M.lo;exact DenL.lo l
 |.scr ds,_,q=>by obtain⟨a,vs,rfl,s,l⟩:=IP q;unfold M.lo;exact DenL.lo l
theorem DenL.lo: ∀{ds:Q0}{vs:List V},DenL K α H ds vs->vO α.length ds
 |[],_,q=>by unfold vO;trivial
 |d::ds,_,q=>by obtain⟨v,r,rfl,a,l⟩:=q.uncons;unfold vO;exact{Den.lo a,DenL.lo l}
end
def DenK.back: ∀{fs gs},DenK K (α++t) H fs gs->(∀p∈fs,M.lo α.length p.1/\M.lo α.length p.2)->DenK K α H fs gs:=λb=>by
 induction b with
 |nil=>exact(λ_=>.nil)
 |cons k a l ih=>exact(λh=>.cons k (a.back (h _ mF0).2) (ih λp c=>h p (mO _ c)))
def KeyD.lo(h:KeyD k k'):M.lo n k:=by
 unfold KeyD at h;split at h
 .unfold M.lo;trivial
 .unfold M.lo;trivial
 .exact h.elim
def DenK.lo: ∀{fs gs},DenK K α H fs gs-> ∀p∈fs,M.lo α.length p.1/\M.lo α.length p.2:=λb=>by
 induction b with
 |nil=>exact λp h=>by simp at h
 |cons k a l ih=>exact λp h=>(mC.mp h).elim (λe=>by subst e;exact⟨k.lo,a.lo⟩) (ih p)
def DenN.back: ∀{fs xs},DenN K (α++t) H fs xs->(∀p∈fs,M.lo α.length p.1/\M.lo α.length p.2)->DenN K α H fs xs:=λb=>by
 induction b with
 |nil=>exact(λ_=>.nil)
 |cons k e a d r l ih=>exact(λh=>.cons k e (a.back (h _ mF0).1) (d.back (h _ mF0).2) r (ih λp c=>h p (mO _ c)))
def DenN.lo: ∀{fs xs},DenN K α H fs xs-> ∀p∈fs,M.lo α.length p.1/\M.lo α.length p.2:=λb=>by
 induction b with
 |nil=>exact λp h=>by simp at h
 |cons k e a d r l ih=>exact λp h=>(mC.mp h).elim (λz=>by subst z;exact⟨a.lo,d.lo⟩) (ih p)
def DenF.back: ∀{fs gs},DenF K (α++t) H fs gs->(∀p∈fs,M.lo α.length p.2)->DenF K α H fs gs:=λb=>by
 induction b with
 |nil=>exact(λ_=>.nil)
 |cons a l ih=>exact(λh=>.cons (a.back (h _ mF0)) (ih λp c=>h p (mO _ c)))
def DenF.lo: ∀{fs gs},DenF K α H fs gs-> ∀p∈fs,M.lo α.length p.2:=λb=>by
 induction b with
 |nil=>exact λp h=>by simp at h
 |cons a l ih=>exact λp h=>(mC.mp h).elim (λe=>by subst e;exact a.lo) (ih p)
def ObD.back(q:ObD g (α++t) H a o)(h:loO α.length o):ObD g α H a o:=by
 cases o with
 |lst ds=>refine q.a λvs b l=>?_;exact Z3 vs b (l.back h)
 |dic ds=>
  rcases q with⟨vs,b,l⟩|⟨vs,b,l⟩
  .exact .inl {vs,b,l.back h}
  .exact .inr (Z3 vs b (l.back h))
 |ins c fs=>refine q.b λC gs m l r=>?_;exact Z2 C gs m (l.back h) r
 |rcd c fs=>refine q.h λC j gs k=>k.f λm b l=>?_;exact Zj C j gs {m,b,l.back h}
 |fdc kvs=>refine q.d λs xs b l=>?_;exact ZX s xs b (l.back h)
def ObD.lo(q:ObD g α H a o):loO α.length o:=by
 cases o with
 |lst ds=>refine q.a λvs b l=>?_;exact l.lo
 |dic ds=>
  rcases q with⟨vs,b,l⟩|⟨vs,b,l⟩
  .exact l.lo
  .exact l.lo
 |ins c fs=>refine q.b λC gs m l r=>?_;exact l.lo
 |rcd c fs=>refine q.h λC j gs k=>k.f λm b l=>?_;exact l.lo
 |fdc kvs=>refine q.d λs xs b l=>?_;exact l.lo
end
def YW(S S2:Sto):Prop:=↑2<=S2.length/\ ∀l,l<↑2->S2[l]? =S[l]? \/ ∃o,S2[l]? =some o/\loO ↑2 o
open Classical in
noncomputable def hX(S:Sto)(r:Er)(S2:Sto):R Er:=
 if YW S S2 then match r with
  |.val (.loc l)=>if l<S.length then .ok r (S2.take S.length)else match S2[l]? with
   |some (.lst ds)=>if vO S.length ds then .ok (.new ds) (S2.take S.length)else .ok r S2
   |_=>.ok r S2
  |.val d=>if lo S.length d then .ok r (S2.take S.length)else .ok r S2
  |.new ds=>if vO S.length ds then .ok r (S2.take S.length)else .ok r S2
 else .ok r S2
theorem Uw(G:Ext α H α1 H1)(S:Wd g α1 S1 H1)(O: ∃t,α2=α1++t)(x2:Ext α H α2 H1)(U:Ext α2 H1 α3 H3)(y:Wd g α3 S3 H3)(d:DenE g.K H1 α3 H3 r v):
  ∃Y S' α',hX S1 r S3=.ok Y S'/\Ext α H α' H3/\Wd g α' S' H3/\DenE g.K H α' H3 Y v:=by
 have j:=x2.trans U;have c:=d.back λb h=>G.free h;unfold hX;by_cases I:YW S1 S3
 .rw[iP I];obtain⟨t,B⟩: ∃t,α3=α1++t:=by obtain⟨t,e⟩:=O;obtain⟨u,Z⟩:=U.pre;exact{_,by rw[Z,e,aA]}
  have A:=S.len;have J:Ext α H α1 H3:={⟨G.pre,j.tup,j.frz⟩,G.new,j.keep,j.has}
  have F:Wd g α1 (S3.take S1.length) H3:=by
   refine{by rw[lT,A,min_eq_left I.1],S.nd,λl a o C w=>?_};have s:l<S1.length:=by rw[<-A];exact(gS.mp C).1
   rw[List.getElem?_take_of_lt s]at w;have q:=y.obj l a o (by rw[B,ã (by rw[A];exact s)];exact C) w;rw[B]at q;refine q.back ?_;rcases I.2 l s with e|⟨o',e,lo'⟩
   .rw[e]at w;exact(S.obj l a o C w).lo
   .rw[w]at e;cases e;rw[A];exact lo'
  have E: ∀d,lo S1.length d->Den g.K α3 H3 d v->DenE g.K H α1 H3 _ v:=λd hd q=>.val ((B▸q:Den g.K _ H3 d v).back (by rw[A];exact hd))
  cases r with
  |new P=>
   dsimp only;split
   .rename_i s;obtain⟨⟨b,vs,rfl,C,w,h3⟩,h4⟩:=c;exact Y4 _ _ (α1) rfl J F (Zo b vs rfl C (λz=>w (by rw[B];exact ę _ z)) ((B▸h3:DenL g.K _ H3 P vs).back (by rw[A];exact s))) h4
   .exact(Ze _ _ (α3) rfl j y c)
  |val mv=>
   have N:Den g.K α3 H3 mv v:=c.1
   cases mv with
   |loc l=>
    dsimp only;split
    .rename_i s;exact Ze _ _ (α1) rfl J F (E _ (by unfold lo;exact s) N)
    .rename_i s;refine(ET N).a λa k T=>?_;subst k;split
     .rename_i P X;split
      .rename_i M;refine(y.obj l a _ T X).a λvs C w=>?_
       have D:a∉α1:=λz=>by
        obtain⟨m,W⟩:=getElem?_of_mem z;have Q:=(gS.mp W).1;have L:α3[m]? =some a:=by rw[B,ã Q];exact W
        obtain⟨u1,e1⟩:=gS.mp L;obtain⟨u2,e2⟩:=gS.mp T;have:=(getElem_inj y.nd).mp (e1.trans e2.symm)
        lia
       refine Y4 _ _ (α1) rfl J F (Zo a vs rfl C D ((B▸w:DenL g.K _ H3 P vs).back (by rw[A];exact M))) (λb e=>?_);cases e;rcases j.new a (ò T)with z|z
       .obtain⟨u,eu⟩:=G.pre;exact absurd (by rw[eu];exact ę _ z) D
       .exact z
      .exact(Ze _ _ (α3) rfl j y c)
     .exact(Ze _ _ (α3) rfl j y c)
   |_=>dsimp only;split;(· rename_i s;exact Ze _ _ (α1) rfl J F (E _ s N));(· exact Ze _ _ (α3) rfl j y c)
 .rw[iN I];exact Ze _ _ (α3) rfl j y c
def KR(g:Gm)(n:Nat)(F:↑13):Sp:=λvs H Q _=> ∃α S a,Wd g α S H/\DenL g.K α H a vs/\a.length=n/\Post g W0 α H (F a S) Q
def zC(n:Nat)(F:↑13)(rs:List Er)(S:Sto):R Er:=if ↑4=n then(noX (F (zK rs S).1 (zK rs S).2)).bind λr a=>hX S r a else .no
section
variable{X:Cx}{pos:Pos}
def IU(j:Ext α H α1 H1)(b:Wd X.g α1 S1 H1)(A:ArgsE X.K H α1 H1 rs vs)(q:Post X.g W α H (zC n F rs S1) Q):
  KR X.g n F vs H1 Q E0:=by
 unfold zC at q;split at q
 .rename_i D;refine(vX b j A).elim λa k=>k.g λy u J o=>?_;refine Ze a _ _ J o (by rw[IR];exact D) ?_
  cases z:F (zK rs S1).1 (zK rs S1).2 with
  |ok r S3=>
   rw[z]at q;intro v C G E L B;refine(Uw j b u.pre y E L B).h λN M α' O=>O.g λs w I m=>?_;have q:Post X.g W α H (hX S1 r S3) Q:=q;rw[s]at q;exact q v α' G w I m
  |exc c fs S3=>rw[z]at q;exact q.elim
  |no=>rw[z]at q;exact q.elim
 .exact q.elim
end
noncomputable def zE(N:D0)(ds:Q0):Rho:=ds.map some++List.replicate (N.length - ↑11) none
noncomputable def zG:R Fl->R Er
 |.ok (.next _) S=>.ok (.val .non) S
 |.ok (.ret r) S=>.ok r S
 |.exc c fs S=>.exc c fs S
 |_=>.no
section
variable{K:O0}
def okM{st:Stmt}(Fb)(F:Fun K x qual st f fd)(L:FnScope N ps (zR st))
  (hbody: ∀ m  A  j  s  H  E ,Room k (A.deeper (envOfC qual (zR st) ↑0 f m))->
   GQ (UM rE P w K mg base N qual (zR st) f m A j s H E).nox W0 (wY st) Fb):
  FnOk P w K mg base rE (k+1) f fd ps (KR ⟨K,mg,P,w⟩ ps.length λds S=>zG (Fb (zE N ds) S)):=by
 refine F.ok L (λvs H Q E h=>?_) (λm A j s H vs Q E C h=>?_)
 .refine h.h λα S ds T=>T.g λ_ l y _=>?_;rw[l.length,y]
 .refine h.h λα S ds U=>U.g λD l y q=>?_;refine(hbody m A j s H E C).a λt G J=>?_;refine(Z3 t G (J α _ S _ H _ D ((show Slots K α H (zE N ds) (start N vs) by
   have a:=l.length;refine{?_,λi d e=>?_}
   .unfold start zE;rw[lA,lA,lM,lM,Đ,Đ,a]
   .unfold zE at e;by_cases hi:i<↑11
    .rw[ã (by simpa using hi),ë]at e
     cases z:ds[i]? with
     |none=>rw[z]at e;cases e
     |some u=>
      rw[z]at e;refine(l.at z).a λv M I=>?_;have B:=è (è e);subst B;refine Z3 v ?_ I;unfold start;rw[ã (by rw[lM,a];exact hi),ë,M];rfl
    .rw[æ (by simpa using hi),List.getElem?_replicate]at e;split at e<;>cases e)) ?_));dsimp only at q
  cases z:Fb _ S with
  |ok fl S'=>
   rw[z]at q
   cases fl with
   |next ρ=>exact λσ α' H' b o O=>q .non α' H' b o (DenE.val GP)
   |ret r=>exact λv α' H' b o u=>q v α' H' b o u
   |brk ρ=>exact q.elim
   |cont ρ=>exact q.elim
  |exc c fs S'=>rw[z]at q;exact λα' H' b o=>q α' H' b o
  |no=>rw[z]at q;exact q
end
inductive Vw where
 |fl (v:V)|tp (ds:Q0)|ls (ds:Q0)
noncomputable def xQ(S:Sto):Er->Option (List MV)
 |.new ds=>some ds
 |.val (.scr ds)=>some ds
 |.val (.loc l)=>match S[l]? with
  |some (.lst ds)=>some ds
  |_=>none
 |_=>none
def RA(S:Sto):Er->Option Vw
 |.val .non=>some (.fl .non)
 |.val (.bl b)=>some (.fl (.bl b))
 |.val (.int i)=>some (.fl (.int i))
 |.val (.str x)=>some (.fl (.str (pU x)))
 |.val (.tup ds)=>some (.tp ds)
 |.val (.typ _)=>none
 |.val (.obj _ _ _)=>none
 |r=>(xQ S r).map .ls
noncomputable def LS(e:MV->MV->Option Bool):List MV->List MV->Option (List Bool)
 |d::ds,f::fs=>(e d f).bind λk=>(LS e ds fs).map (k::·)
 |_,_=>some []
def O4(e:MV->MV->Option Bool):Vw->Vw->Option Bool
 |.fl x,.fl y=>some (Tl x y)
 |.tp ds,.tp es=>(LS e ds es).map λbs=>bs.all id&&ds.length==es.length
 |.ls ds,.ls es=>if ds.length=es.length then(LS e ds es).map λbs=>bs.all id else some false
 |_,_=>some false
theorem Cm(e)(ds es):O4 e (.tp ds) (.tp es)=(LS e ds es).map λbs=>bs.all id&&↑11==es.length:=rfl
theorem Co(e)(ds es):O4 e (.ls ds) (.ls es)=if ↑11=es.length then(LS e ds es).map λbs=>bs.all id else some false:=rfl
def eqv(S:Sto):Nat->MV->MV->Option Bool
 |0,_,_=>none
 |n+1,a,b=>(RA S (.val a)).bind λx=>(RA S (.val b)).bind λy=>O4 (eqv S n) x y
def EW(S:Sto)(n:Nat)(a b:Er):Option Bool:=(RA S a).bind λx=>(RA S b).bind λy=>O4 (eqv S n) x y
section
variable{X:Cx}{α:B9}{S:Sto}{H:Hp}
def oS{K:O0}(m:g.K=K)(o:Wd g α S H)(e:xQ S r=some ds)(d:DenX K α H r x): ∃a vs,x=.ref a/\SqL K H a vs/\DenL K α H ds vs:=by
 subst m;unfold xQ at e;split at e
 .cases e;refine d.l λb vs k h _ l=>?_;subst k;exact Z2 b vs rfl (.of h) l
 .cases e;refine(NW d).b λa vs q s l=>?_;subst q;exact Z2 a vs rfl s.l l
 .rename_i n;refine(bV d).a λa u h=>?_;subst u;split at e
  .rename_i es j;cases e;refine(o.obj n a _ h j).a λvs c l=>?_;exact Z2 a vs rfl (.of c) l
  .cases e
 .cases e
def vA(e:RA S r=some (.fl y))(d:DenX X.K α H r x):x=y/\rD y=true:=by
 unfold RA at e;split at e
 .cases e;exact{IQ d,rfl}
 .cases e;exact{NV d,rfl}
 .cases e;exact{yM d,rfl}
 .cases e;exact{eB d,rfl}
 .cases e
 .cases e
 .cases e
 .cases z:xQ S r<;>rw[z]at e<;>cases e
def vB(e:RA S r=some (.tp ds))(d:DenX X.K α H r x): ∃a vs,x=.ref a/\SqT X.K H a vs/\DenL X.K α H ds vs:=by
 unfold RA at e;split at e
 .cases e
 .cases e
 .cases e
 .cases e
 .cases e;exact dO d
 .cases e
 .cases e
 .cases z:xQ S r<;>rw[z]at e<;>cases e
def vC(b:Wd X.g α S H)(e:RA S r=some (.ls ds))(d:DenX X.K α H r x): ∃a vs,x=.ref a/\SqL X.K H a vs/\DenL X.K α H ds vs:=by
 unfold RA at e;split at e
 .cases e
 .cases e
 .cases e
 .cases e
 .cases e
 .cases e
 .cases e
 .cases z:xQ S r with
  |none=>rw[z]at e;cases e
  |some es=>rw[z]at e;cases e;exact oS rfl b z d
theorem CK: ∀{ds es}{bs},LS e ds es=some bs->bs.length=min ↑11 es.length
 |[],_,_,h=>by simp[LS]at h;subst h;simp
 |_::_,[],_,h=>by simp[LS]at h;subst h;simp
 |d::ds,f::fs,bs,h=>by
  unfold LS at h
  cases z:e d f with
  |none=>rw[z]at h;cases h
  |some k=>
   rw[z]at h
   cases j:LS e ds fs with
   |none=>simp[j]at h
   |some cs=>
    simp[j]at h;subst h;simp[CK j]
theorem VC: ∀{ds es}{bs}{j}{d f},LS e ds es=some bs->ds[j]? =some d->es[j]? =some f->e d f=some (bs.getD j true)
 |[],_,_,_,_,_,h,h1,_=>by simp at h1
 |_::_,[],_,_,_,_,h,_,h2=>by simp at h2
 |d::ds,f::fs,bs,j,d',f',h,h1,h2=>by
  unfold LS at h
  cases z:e d f with
  |none=>rw[z]at h;cases h
  |some k=>
   rw[z]at h
   cases m:LS e ds fs with
   |none=>simp[m]at h
   |some cs=>
    simp[m]at h;subst h
    cases j with
    |zero=>simp at h1 h2;subst h1 h2;simpa using z
    |succ j=>simpa using VC m (by simpa using h1) (by simpa using h2)
def range_all{bs:L1}(h:bs.length=n):(List.range n).all (λj=>bs.getD j true)=bs.all id:=by
 subst h;rw[Bool.eq_iff_iff,ü,ü];constructor
 .intro h x b;obtain⟨i,hi,rfl⟩:=getElem_of_mem b;have:=h i (ē.mpr hi);simpa [đ,hi]using this
 .intro h i hi;have a:=ē.mp hi;have:=h bs[i] (Ľ a);simpa [đ,a]using this
variable{pins:L0}{σ:St}{s:Ō}
def GS(I:↑1)(h:SqL X.K H a xs)(h':SqT X.K H a ys):False:=by refine(I.list h).c λ_ _ m _=>?_;refine(I.tuple h').c λ_ _ pt _=>?_;refine m.l λo n e c _ _=>?_;refine pt.c λq j b _=>?_;rw[e]at j;cases j;rw[c]at b;exact absurd b (by simp)
theorem Nl(I:↑1)(w:Wd X.g α S H)(L: ∀d f v k,Den X.K α H d v->Den X.K α H f v->e d f=some k->k=true)
  (ha:RA S a=some p) (hb:RA S b=some q) (da:DenX X.K α H a x) (db:DenX X.K α H b x) (h:O4 e p q=some k):k=true:=by
 have E: ∀{ds es:Q0}{vs:List V}{bs:L1},DenL X.K α H ds vs->DenL X.K α H es vs->LS e ds es=some bs->bs.all id=true:=by
  intro ds es vs bs j c z;rw[ü];intro k O;obtain⟨i,hi,rfl⟩:=getElem_of_mem O;have U:=CK z;have J:i<ds.length:=by lia
  have F:i<es.length:=by lia
  refine(j.at (gE J)).a λv Q P=>?_;refine(c.at (gE F)).a λT G M=>?_;rw[Q]at G;cases G;have:=L _ _ _ _ P M (VC z (gE J) (gE F));simpa [đ,hi]using this
 cases p with
 |fl y=>
  obtain⟨rfl,B⟩:=vA ha da
  cases q with
  |fl z=>obtain⟨rfl,A⟩:=vA hb db;cases h;exact Mv B
  |tp ds=>obtain⟨a,vs,rfl,_⟩:=vB hb db;exact absurd B xF0
  |ls ds=>obtain⟨a,vs,rfl,_⟩:=vC w hb db;exact absurd B xF0
 |tp ds=>
  obtain⟨N,vs,rfl,u,j⟩:=vB ha da
  cases q with
  |fl z=>obtain⟨rfl,A⟩:=vA hb db;exact absurd A xF0
  |tp es=>
   obtain⟨D,C,m,o,c⟩:=vB hb db;cases m;cases I.tuple_inj u o;rw[Cm]at h
   cases z:LS e ds es with
   |none=>rw[z]at h;cases h
   |some bs=>
    rw[z]at h;cases h;show(bs.all id&&↑11==es.length)=true;rw[E j c z, <-j.length, <-c.length];simp
  |ls es=>obtain⟨D,C,m,o,c⟩:=vC w hb db;cases m;exact(GS I o u).elim
 |ls ds=>
  obtain⟨N,vs,rfl,u,j⟩:=vC w ha da
  cases q with
  |fl z=>obtain⟨rfl,A⟩:=vA hb db;exact absurd A xF0
  |tp es=>obtain⟨D,C,m,o,c⟩:=vB hb db;cases m;exact(GS I u o).elim
  |ls es=>
   obtain⟨D,C,m,o,c⟩:=vC w hb db;cases m;cases I.list_inj u o;rw[Co]at h;rw[iP (by rw[<-j.length, <-c.length])]at h
   cases z:LS e ds es with
   |none=>rw[z]at h;cases h
   |some bs=>rw[z]at h;cases h;exact E j c z
theorem OB(I:↑1)(a:Wd X.g α S H): ∀ n  d f  v  k ,Den X.K α H d v->Den X.K α H f v->eqv S n d f=some k->k=true
 |0,_,_,_,_,_,_,h=>by cases h
 |n+1,d,f,v,k,h1,h2,h=>by
  unfold eqv at h
  cases j:RA S _ with
  |none=>rw[j]at h;cases h
  |some p=>
   cases m:RA S _ with
   |none=>rw[j,m]at h;cases h
   |some q=>
    rw[j,m]at h;exact Nl I a (OB I a n) j m h1 h2 h
def GT(D: ∀d f x y u v k,Den X.K α H d x->Den X.K α H f y->RelV x u->RelV y v->e d f=some k->SeqAt.EqAt A s u v k)
      (l1:DenL X.K α H ds vs) (l2:DenL X.K α H es us) (r1:Vals vs its) (r2:Vals us its2) (z:LS e ds es=some bs):
  ∀j  q  (m:j<its2.toArray.size),SeqAt.EqAt A s its.toArray[j] its2.toArray[j] (bs.getD j true):=by
 intro j q m;have a:j<vs.length:=by rw[r1.length];simpa using q
 have b:j<us.length:=by rw[r2.length];simpa using m
 refine(l1.get (gE a)).a λd G J=>?_;refine(l2.get (gE b)).a λf o I=>?_;refine(r1.get (gE a)).a λu E B=>?_;refine(r2.get (gE b)).a λv w c=>?_;have F:its.toArray[j]=u:=by have:its[j]? =some (its[j]'(by simpa using q)):=gE _;rw[E]at this;simpa using(è this).symm
 have C:its2.toArray[j]=v:=by have:its2[j]? =some (its2[j]'(by simpa using m)):=gE _;rw[w]at this;simpa using(è this).symm
 rw[F,C];exact D d f _ _ u v _ J I B c (VC z G o)
theorem IV(I:↑1)(M:Wd X.g α S H): ∀ n  A  d f  x y  u v  k ,A.units+n<cLine->Den X.K α H d x->Den X.K α H f y->RelV x u->RelV y v->eqv S n d f=some k->SeqAt.EqAt A s u v k
 |0,_,_,_,_,_,_,_,_,_,_,_,_,_,h=>by cases h
 |n+1,A,d,f,x,y,u,v,k,hu,h1,h2,rx,ry,h=>by
  have j:A.units<cLine:=by lia
  have C:=h;unfold eqv at h
  cases O:RA S _ with
  |none=>rw[O]at h;cases h
  |some p=>
   cases B:RA S _ with
   |none=>rw[O,B]at h;cases h
   |some q=>
    rw[O,B]at h;have h:O4 _ p q=some k:=h;have Z:=λd f x y u v k a b c d' e=>IV I M n A.in1 d f x y u v k #[0] a b c d' e
    cases p with
    |fl x'=>
     obtain⟨rfl,W⟩:=vA O h1
     cases q with
     |fl y'=>obtain⟨rfl,T⟩:=vA B h2;cases h;exact K1 rx ry W T
     |tp es=>
      obtain⟨b,Q,rfl,D,w⟩:=vB B h2;cases ry;cases h;obtain⟨E,_,pt,_⟩:=I.tuple D;exact(KN rx W pt j).2.1
     |ls es=>
      obtain⟨b,Q,rfl,D,w⟩:=vC M B h2;cases ry;cases h;obtain⟨E,_,G,_⟩:=I.list D;exact(SN rx W G.isList j).2.1
    |tp ds=>
     obtain⟨a,vs,rfl,U,F⟩:=vB O h1;cases rx;obtain⟨E,J,pt,_⟩:=I.tuple U
     cases q with
     |fl y'=>obtain⟨rfl,T⟩:=vA B h2;cases h;exact(KN ry T pt j).1
     |tp es=>
      obtain⟨b,Q,rfl,D,w⟩:=vB B h2;cases ry;by_cases o:a=b
      .subst o;rw[OB I M _ d f _ k h1 h2 C];exact SeqAt.EqAt.same _
      .refine(I.tuple D).c λm L Y _=>?_;rw[Cm]at h
       cases z:LS _ ds es with
       |none=>rw[z]at h;cases h
       |some bs=>
        rw[z]at h;cases h;have:=SeqAt.RcAt.tuples pt Y j (GT Z F w J L z);have N:=CK z;rw[range_all (by rw[N];simp[<-J.length, <-L.length,F.length,w.length])]at this;have e3:(E.toArray.size==m.toArray.size)=(↑11==es.length):=by simp[<-J.length, <-L.length,F.length,w.length]
        rw[e3]at this;exact SeqAt.EqAt.of_refs o this
     |ls es=>
      obtain⟨b,Q,rfl,D,w⟩:=vC M B h2;cases ry;cases h;refine(I.list D).c λm _ G _=>?_;exact SeqAt.EqAt.tuple_list pt G.isList j
    |ls ds=>
     obtain⟨a,vs,rfl,U,F⟩:=vC M O h1;cases rx;obtain⟨E,J,G,_⟩:=I.list U
     cases q with
     |fl y'=>obtain⟨rfl,T⟩:=vA B h2;cases h;exact(SN ry T G.isList j).1
     |tp es=>
      obtain⟨b,Q,rfl,D,w⟩:=vB B h2;cases ry;cases h;refine(I.tuple D).c λm _ pt _=>?_;exact SeqAt.EqAt.list_tuple G.isList pt j
     |ls es=>
      obtain⟨b,Q,rfl,D,w⟩:=vC M B h2;cases ry;by_cases o:a=b
      .subst o;rw[OB I M _ d f _ k h1 h2 C];exact SeqAt.EqAt.same _
      .refine(I.list D).c λm L P _=>?_;rw[Co]at h;by_cases N:↑11=es.length
       .rw[iP N]at h
        cases z:LS _ ds es with
        |none=>rw[z]at h;cases h
        |some bs=>
         rw[z]at h;cases h;have:=SeqAt.RcAt.lists G.isList P.isList (by simp[<-J.length, <-L.length,F.length,w.length,N]) j (GT Z F w J L z);rw[range_all (by rw[(CK z)];simp[<-J.length,F.length,N])]at this;exact SeqAt.EqAt.of_refs o this
       .rw[iN N]at h;cases h;exact SeqAt.EqAt.of_refs o (SeqAt.RcAt.lists_lengths G.isList P.isList (by simpa [<-J.length, <-L.length,F.length,w.length]using N) j)
theorem A4{E:Around->Ō->ō->ō->Bool->Prop}{tr:Bool->Bool}
  (hff: ∀x y u v,RelV x u->RelV y v->rD x=true->rD y=true->E A s u v (tr (Tl x y)))
  (hfl: ∀x v l B,RelV x v->rD x=true->s.heap.IsList l B->A.units<cLine->E A s v (.ref l) (tr false)/\E A s (.ref l) v (tr false))
  (hft: ∀x v l B,RelV x v->rD x=true->s.heap.IsTuple l B->A.units<cLine->E A s v (.ref l) (tr false)/\E A s (.ref l) v (tr false))
  (hlt: ∀l b B m,s.heap.IsList l B->s.heap.IsTuple b m->A.units<cLine->E A s (.ref l) (.ref b) (tr false)/\E A s (.ref b) (.ref l) (tr false))
  (htt: ∀ l b  B m  e ,s.heap.IsTuple l B->s.heap.IsTuple b m->A.units<cLine->(∀j  Y  (G:j<m.size),SeqAt.EqAt A.in1 s B[j] m[j] (e j))->E A s (.ref l) (.ref b) (tr ((List.range (min B.size m.size)).all e&&B.size==m.size)))
  (hll: ∀ l b  B m  e ,s.heap.IsList l B->s.heap.IsList b m->B.size=m.size->A.units<cLine->(∀j  Y  (G:j<m.size),SeqAt.EqAt A.in1 s B[j] m[j] (e j))->E A s (.ref l) (.ref b) (tr ((List.range B.size).all e)))
  (hln: ∀ l b  B m ,s.heap.IsList l B->s.heap.IsList b m->(B.size !=m.size)=true->A.units<cLine->E A s (.ref l) (.ref b) (tr false))
  (I:↑1) (wd:Wd X.g α S H) (n)     (hu:A.units+(n+1)<cLine) (Y:DenX X.K α H a x) (G:DenX X.K α H b y) (rx:RelV x u) (ry:RelV y v) (h:EW S n a b=some k):E A s u v (tr k):=by
 have o:A.units<cLine:=by lia
 unfold EW at h
 cases Q:RA S a with
 |none=>rw[Q]at h;cases h
 |some p=>
  cases D:RA S b with
  |none=>rw[Q,D]at h;cases h
  |some q=>
   rw[Q,D]at h;have h:O4 _ p q=some k:=h;have he:=λd f x y u v k a b c d' e=>IV I wd n A.in1 d f x y u v k #[0] a b c d' e
   cases p with
   |fl x'=>
    obtain⟨rfl,fx⟩:=vA Q Y
    cases q with
    |fl y'=>obtain⟨rfl,W⟩:=vA D G;cases h;exact hff _ _ _ _ rx ry fx W
    |tp es=>
     obtain⟨b,U,rfl,F,C⟩:=vB D G;cases ry;cases h;refine(I.tuple F).c λJ _ pt _=>?_;exact(hft _ _ _ _ rx fx pt o).1
    |ls es=>
     obtain⟨b,U,rfl,F,C⟩:=vC wd D G;cases ry;cases h;refine(I.list F).c λJ _ M _=>?_;exact(hfl _ _ _ _ rx fx M.isList o).1
   |tp ds=>
    obtain⟨a,vs,rfl,Z,L⟩:=vB Q Y;cases rx;obtain⟨J,N,pt,_⟩:=I.tuple Z
    cases q with
    |fl y'=>obtain⟨rfl,W⟩:=vA D G;cases h;exact(hft _ _ _ _ ry W pt o).2
    |tp es=>
     obtain⟨b,U,rfl,F,C⟩:=vB D G;cases ry;refine(I.tuple F).c λw O aa _=>?_;rw[Cm]at h
     cases z:LS _ ds es with
     |none=>rw[z]at h;cases h
     |some bs=>
      rw[z]at h;cases h;have:=htt _ _ _ _ _ pt aa o (GT he L C N O z);have P:=CK z;rw[range_all (by rw[P];simp[<-N.length, <-O.length,L.length,C.length])]at this;have e3:(J.toArray.size==w.toArray.size)=(↑11==es.length):=by simp[<-N.length, <-O.length,L.length,C.length]
      rw[e3]at this;exact this
    |ls es=>
     obtain⟨b,U,rfl,F,C⟩:=vC wd D G;cases ry;cases h;refine(I.list F).c λw _ M _=>?_;exact(hlt _ _ _ _ M.isList pt o).2
   |ls ds=>
    obtain⟨a,vs,rfl,Z,L⟩:=vC wd Q Y;cases rx;obtain⟨J,N,M,_⟩:=I.list Z
    cases q with
    |fl y'=>obtain⟨rfl,W⟩:=vA D G;cases h;exact(hfl _ _ _ _ ry W M.isList o).2
    |tp es=>
     obtain⟨b,U,rfl,F,C⟩:=vB D G;cases ry;cases h;refine(I.tuple F).c λw _ pt _=>?_;exact(hlt _ _ _ _ M.isList pt o).1
    |ls es=>
     obtain⟨b,U,rfl,F,C⟩:=vC wd D G;cases ry;refine(I.list F).c λw O T _=>?_;rw[Co]at h;by_cases P:↑11=es.length
     .rw[iP P]at h
      cases z:LS _ ds es with
      |none=>rw[z]at h;cases h
      |some bs=>
       rw[z]at h;cases h;have:=hll _ _ _ _ _ M.isList T.isList (by simp[<-N.length, <-O.length,L.length,C.length,P]) o (GT he L C N O z);rw[range_all (by rw[(CK z)];simp[<-N.length,L.length,P])]at this;exact this
     .rw[iN P]at h;cases h;exact hln _ _ _ _ M.isList T.isList (by simpa [<-N.length, <-O.length,L.length,C.length]using P) o
def O5(I:↑1)(w:Wd X.g α S H)(n)(j:A.units+(n+1)<cLine)(m:DenX X.K α H a x)(B:DenX X.K α H b y)(q:RelV x u)(o:RelV y v)(h:EW S n a b=some k):SeqAt.RcAt A s u v k:=
 A4 (tr:=id) (λ_ _ _ _ a b c d=>(Mu a b c d).1) (λ_ _ _ _ a b c d=>{(SN a b c d).2.2.2.1,(SN a b c d).2.2.1}) (λ_ _ _ _ a b c d=>{(KN a b c d).2.2.2.1,(KN a b c d).2.2.1})
  (λ_ _ _ _ a b c=>{SeqAt.RcAt.list_tuple a b c,SeqAt.RcAt.tuple_list b a c}) (λ_ _ _ _ _ a b c d=>SeqAt.RcAt.tuples a b c d) (λ_ _ _ _ _ a b c d e=>SeqAt.RcAt.lists a b c d e) (λ_ _ _ _ a b c d=>SeqAt.RcAt.lists_lengths a b c d)
  I w n j m B q o h
def O6(I:↑1)(w:Wd X.g α S H)(n)(j:A.units+(n+1)<cLine)(m:DenX X.K α H a x)(B:DenX X.K α H b y)(q:RelV x u)(o:RelV y v)(h:EW S n a b=some k):SeqAt.RcNeAt A s u v (!k):=
 A4 (λ_ _ _ _ a b c d=>(Mu a b c d).2) (λ_ _ _ _ a b c d=>{(SN a b c d).2.2.2.2.2,(SN a b c d).2.2.2.2.1}) (λ_ _ _ _ a b c d=>{(KN a b c d).2.2.2.2.2,(KN a b c d).2.2.2.2.1})
  (λ_ _ _ _ a b c=>{SeqAt.RcNeAt.list_tuple a b c,SeqAt.RcNeAt.tuple_list b a c}) (λ_ _ _ _ _ a b c d=>SeqAt.RcNeAt.tuples a b c d) (λ_ _ _ _ _ a b c d e=>SeqAt.RcNeAt.lists a b c d e) (λ_ _ _ _ a b c d=>SeqAt.RcNeAt.lists_lengths a b c d)
  I w n j m B q o h
def Uy{α β:Type}{a c:List α}{b d:List β}(h:a.length=b.length)(k:c.length=d.length)(e:a.zip b=c.zip d):a=c/\b=d:=
 {by rw[<-map_fst_zip (le_of_eq h),e,map_fst_zip (le_of_eq k)],by rw[<-map_snd_zip (le_of_eq h.symm),e,map_snd_zip (le_of_eq k.symm)]}
def MV.kd:MV->Nat
 |.non=>0|.bl _=>1|.int _=>2|.str _=>3|.typ _=>4|.tup _=>5|.scr _=>6|.loc _=>7|.obj _ _ _=>8
noncomputable def kdO:Option HO->Nat
 |none=>10
 |some (.tup _)=>5
 |some (.frz _ (.tup _))=>5
 |some (.frz _ (.lst _))=>6
 |some (.frz _ (.ins _ _ _))=>8
 |_=>7
def kdV(H:Hp):V->Nat
 |.non=>0|.bl _=>1|.int _=>2|.str _=>3|.ty _=>4|.ref a=>kdO (H a)|_=>10
def Den.kd(I:↑1)(B:Wd X.g α S H)(h:Den X.K α H d v):kdV H v=d.kd\/kdV H v=10/\(d.kd=5/\(∃a xs,v=.ref a/\SqT X.K H a xs)\/d.kd=6/\ ∃a xs,v=.ref a/\SqL X.K H a xs):=by
 have k: ∀{a o},H a=o->kdV H (.ref a)=kdO o:=λh=>congrArg kdO h
 cases d with
 |non=>cases UY h;exact .inl rfl
 |bl b=>cases SQ h;exact .inl rfl
 |int b=>cases iV h;exact .inl rfl
 |str b=>cases sF h;exact .inl rfl
 |typ b=>cases NU h;exact .inl rfl
 |tup ds=>
  obtain⟨a,vs,rfl,s,_⟩:=bG h;have j:=s;rcases s with(s|⟨o,s⟩)|⟨o,its,n,s,_⟩
  .exact .inl (k s)
  .exact .inl (k s)
  .exact .inr {k (I.bs a o (I.mod.kin a o s)).2,.inl ⟨rfl,a,vs,rfl,j⟩}
 |scr ds=>
  obtain⟨a,vs,rfl,s,_⟩:=IP h;have j:=s.l;rcases s with⟨o,s⟩|⟨o,its,n,s,_⟩
  .exact .inl (k s)
  .exact .inr {k (I.bs a o (I.mod.kin a o s)).2,.inr ⟨rfl,a,vs,rfl,j⟩}
 |loc l=>
  obtain⟨a,rfl,m⟩:=ET h;refine(B.mem (ò m)).c λw A y q=>?_;refine .inl ((k A).trans ?_)
  cases w with
  |tup xs=>exact absurd rfl (y xs)
  |frz o u=>obtain⟨D,rfl⟩:=q o u rfl;rfl
  |_=>rfl
 |obj c ns ds=>refine(IO h).q λa C E F o G=>G.f λJ m _=>?_;subst J;exact .inl (k m)
def Den.kds(I:↑1)(c:Wd X.g α S H)(h:Den X.K α H d v)(h':Den X.K α H f v):d.kd=f.kd:=by
 have n: ∀d:MV,d.kd≠10:=λd=>by cases d<;>exact nofun
 rcases h.kd I c with k|⟨k,k1⟩<;>rcases h'.kd I c with k'|⟨k',k2⟩
 .exact k.symm.trans k'
 .exact absurd (k.symm.trans k') (n d)
 .exact absurd (k'.symm.trans k) (n f)
 .rcases k1 with⟨k1,a,xs,rfl,h1⟩|⟨k1,a,xs,rfl,h1⟩<;>rcases k2 with⟨k2,b,ys,e,h2⟩|⟨k2,b,ys,e,h2⟩
  .rw[k1,k2]
  .cases e;exact(GS I h2 h1).elim
  .cases e;exact(GS I h1 h2).elim
  .rw[k1,k2]
def MV.inv(f:MV):(f.kd=0->f=.non)/\(f.kd=1-> ∃b,f=.bl b)/\(f.kd=2-> ∃b,f=.int b)/\(f.kd=3-> ∃b,f=.str b)/\(f.kd=4-> ∃b,f=.typ b)/\(f.kd=5-> ∃b,f=.tup b)/\(f.kd=6-> ∃b,f=.scr b)/\(f.kd=7-> ∃b,f=.loc b)/\(f.kd=8-> ∃a b c,f=.obj a b c):=by cases f<;>(refine{?_,?_,?_,?_,?_,?_,?_,?_,?_}<;>first |exact λ_=>rfl|exact λ_=>{_,rfl}|exact λ_=>{_,_,rfl}|exact λ_=>{_,_,_,rfl}|exact nofun)
mutual
theorem Den.inj(I:↑1)(j:Wd X.g α S H): ∀{d f:MV}{v:V},Den X.K α H d v->Den X.K α H f v->d=f
 |.non,f,v,h,h'=>(f.inv.1 (h.kds I j h').symm).symm
 |.bl b,f,v,h,h'=>by obtain⟨c,rfl⟩:=f.inv.2.1 (h.kds I j h').symm;cases SQ h;cases SQ h';rfl
 |.int b,f,v,h,h'=>by obtain⟨c,rfl⟩:=f.inv.2.2.1 (h.kds I j h').symm;cases iV h;cases iV h';rfl
 |.str b,f,v,h,h'=>by obtain⟨c,rfl⟩:=f.inv.2.2.2.1 (h.kds I j h').symm;cases sF h;rw[MD (V.str.inj (sF h'))]
 |.typ b,f,v,h,h'=>by obtain⟨c,rfl⟩:=f.inv.2.2.2.2.1 (h.kds I j h').symm;cases NU h;cases NU h';rfl
 |.tup ds,f,v,h,h'=>by obtain⟨es,rfl⟩:=f.inv.2.2.2.2.2.1 (h.kds I j h').symm;obtain⟨a,vs,rfl,B,y⟩:=bG h;obtain⟨F,J,o,G,u⟩:=bG h';cases o;cases I.tuple_inj B G;rw[DenL.inj I j y u]
 |.scr ds,f,v,h,h'=>by obtain⟨es,rfl⟩:=f.inv.2.2.2.2.2.2.1 (h.kds I j h').symm;obtain⟨a,vs,rfl,B,y⟩:=IP h;obtain⟨F,J,o,G,u⟩:=IP h';cases o;cases I.list_inj B.l G.l;rw[DenL.inj I j y u]
 |.loc l,f,v,h,h'=>by
  obtain⟨m,rfl⟩:=f.inv.2.2.2.2.2.2.2.1 (h.kds I j h').symm;obtain⟨a,rfl,T⟩:=ET h;obtain⟨F,o,E⟩:=ET h';cases o;by_cases A:l=m
  .rw[A]
  .exact absurd rfl (j.ne T E A)
 |.obj c ns ds,f,v,h,h'=>by
  obtain⟨W,M,es,rfl⟩:=f.inv.2.2.2.2.2.2.2.2 (h.kds I j h').symm;obtain⟨a,C,Y,J,o2,rfl,E,U,P,Q,y⟩:=IO h;obtain⟨F,C2,O,L,Z,o,q,N,w,D,u⟩:=IO h';cases o;rw[E]at q;injection q with q
  injection q with _ q
  injection q with e1 o e3
  subst e1;rw[P]at w;cases w;obtain⟨rfl,rfl⟩:=Uy Q D e3;rw[DenL.inj I j y u]
theorem DenL.inj(I:↑1)(b:Wd X.g α S H): ∀{ds fs:Q0}{vs:List V},DenL X.K α H ds vs->DenL X.K α H fs vs->ds=fs
 |[],fs,vs,h,h'=>by
  cases h.isnil
  cases fs with
  |nil=>rfl
  |cons f fs=>obtain⟨_,_,e,_⟩:=h'.uncons;cases e
 |d::ds,fs,vs,h,h'=>by
  obtain⟨v,r,rfl,a,l⟩:=h.uncons
  cases fs with
  |nil=>cases h'.isnil
  |cons f fs=>
   obtain⟨o,m,e,c,j⟩:=h'.uncons;cases e;rw[Den.inj I b a c,DenL.inj I b l j]
end
end
inductive LexR(A:Around)(s:Ō):List ō->List ō->Bool->Prop
 |nn:LexR A s [] [] false
 |nc (x xs):LexR A s [] (x::xs) true
 |cn (y ys):LexR A s (y::ys) [] false
 |eq {y x ys xs k}:SeqAt.EqAt A s y x true->LexR A s ys xs k->LexR A s (y::ys) (x::xs) k
 |ne {y x ys xs k}:SeqAt.EqAt A s y x false->(∀(prog:Ŏ)(w:World)(E Q:VP),Q (.bool k) s->wpAny (model prog w) A (richCompare .Lt y x) Q E s)->LexR A s (y::ys) (x::xs) k
section
open PySem.SeqAt
open PySem.AutoSeq1 (wpAny_loadPart')
open PySem.MeetsSeq PySem.MeetsSeq2 PySem.MeetsSeq3
theorem OE(l b)(its its2)(n n2)(dd dd2)(sl sl2)(k):
  Meets (Builtin.«tuple.__lt__» {[.ref l,.ref b],[]})
   (λA R s=>s.heap.get? l=some {cls:=.type "tuple",dict:=dd,data:=.seq its n,slots:=sl}/\s.heap.get? b=some {cls:=.type "tuple",dict:=dd2,data:=.seq its2 n2,slots:=sl2}/\
    LexR A.in1 s its.toList its2.toList k/\R (.ok (.ret (.bool k))) s):=
 .of_wp λprog w A R s h=>by
  obtain⟨B,g,d,C,v⟩:=s;obtain⟨F,D,q,h⟩:=h;have H:=AutoSeq1.sub_tuple_tuple
  wp_walk using ÿ F,ÿ D,wpAny_forIn_list _ (λrest b u=>b.1=none/\u=⟨B,g,d,C,v⟩/\ ∃(vs o:A0),rest=vs.zip o/\
   LexR A.in1 ⟨B,g,d,C,v⟩ vs o k/\↑9+its2.size=o.length+its.size) _
  case turn=>
   rintro⟨y,x⟩ rest b u ⟨j,rfl,vs,o,c,m,a⟩
   cases m with
   |nn=>rw[zip_nil_left]at c;cases c
   |nc x xs=>rw[zip_nil_left]at c;cases c
   |cn y ys=>rw[List.zip_nil_right]at c;cases c
   |@eq y' x' ys xs k' he hr=>
    rw[į]at c;injection c with hyx hrest
    injection hyx with hy q
    subst hy q;simp only[lC]at a;refine wB (he prog w _ _ ?_)
    wp_walk
    exact{rfl,rfl,_,_,hrest,hr,by lia}
   |@ne y' x' ys xs k' he hr=>
    rw[į]at c;injection c with hyx hrest
    injection hyx with hy q
    subst hy q;refine wB (he prog w _ _ ?_)
    wp_walk using(hr prog w)
    exact{_,rfl,by simpa using h}
  case fin=>
   rintro⟨I,G⟩ u ⟨j,rfl,vs,o,c,m,a⟩;simp only at j;subst j
   have E:k=decide (its.size<its2.size):=by
    cases m with
    |nn=>simp only[ă]at a;exact(dF0 #[0]).symm
    |nc x xs=>simp only[ă,lC]at a;exact(dT0 #[0]).symm
    |cn y ys=>simp only[ă,lC]at a;exact(dF0 #[0]).symm
    |eq he hr=>rw[į]at c;cases c
    |ne he hr=>rw[į]at c;cases c
   rw[E]at h
   wp_walk
   exact{_,rfl,by simpa [Builtin.Tuple.tupleCompareSizes]using h}
  case h=>
   exact{rfl,rfl,_,_,rfl,q,by simp;lia}
end
def Nn(J:IsTup s.heap l its)(C:IsTup s.heap b its2)(D:LexR A.in1 s its.toList its2.toList k)(H:A.units<cLine)(prog)(w)(E Q)(h:Q (.bool k) s):
  wpAny ↑6 A (richCompare .Lt (.ref l) (.ref b)) Q E s:=by
 obtain⟨⟨y,I,v,sl⟩,u,B,n,hd⟩:=id J;obtain⟨⟨q,m,_,j⟩,a,o,G,c⟩:=id C;subst B hd o c
 exact richCompare_meets_room {_,u,rfl} {_,a,rfl} PySem.F.slot_tuple_lt PySem.F.entry_tuple_lt (PySem.F.args_tuple_lt_2 _ _) (OE l b its its2 n G I m sl j k)
  {u,a,D,show Value.bool k≠Value.notImplemented/\Q _ s from{(λx=>nomatch x),h}} H
noncomputable def RB(e l:MV->MV->Option Bool):List MV->List MV->Option Bool
 |[],[]=>some false
 |[],_::_=>some true
 |_::_,[]=>some false
 |d::ds,f::fs=>(e d f).bind λk=>if k=true then RB e l ds fs else l d f
def MF(S:Sto):Nat->MV->MV->Option Bool
 |0,_,_=>none
 |n+1,.int i,.int j=>some (decide (i<j))
 |n+1,.str x,.str y=>some (decide (x<y))
 |n+1,.tup ds,.tup es=>RB (eqv S n) (MF S n) ds es
 |_,_,_=>none
section
variable{X:Cx}
theorem Fi(c: ∀d f x y u v k,Den X.K α H d x->Den X.K α H f y->RelV x u->RelV y v->e d f=some k->SeqAt.EqAt A s u v k)
  (hl: ∀d f x y u v k,Den X.K α H d x->Den X.K α H f y->RelV x u->RelV y v->l d f=some k-> ∀ prog  w  E Q ,Q (.bool k) s->wpAny ↑6 A (richCompare .Lt u v) Q E s):
  ∀{ds fs}{vs us}{m j}{k},DenL X.K α H ds vs->DenL X.K α H fs us->Vals vs m->Vals us j->RB e l ds fs=some k->LexR A s m j k
 |[],[],_,_,_,_,k,l1,l2,r1,r2,h=>by cases l1.isnil;cases l2.isnil;cases r1;cases r2;cases h;exact .nn
 |[],f::fs,_,_,_,_,k,l1,l2,r1,r2,h=>by
  cases l1.isnil;obtain⟨v,r,rfl,a,l⟩:=l2.uncons;cases r1
  cases r2 with
  |cons a b=>cases h;exact .nc _ _
 |d::ds,[],_,_,_,_,k,l1,l2,r1,r2,h=>by
  cases l2.isnil;obtain⟨v,r,rfl,a,l⟩:=l1.uncons;cases r2
  cases r1 with
  |cons a b=>cases h;exact .cn _ _
 |d::ds,f::fs,_,_,_,_,k,l1,l2,r1,r2,h=>by
  refine l1.uncons.b λv r F a o=>?_;subst F;refine l2.uncons.b λC D G q B=>?_;subst G
  cases r1 with
  |cons b1 c1=>
   cases r2 with
   |cons b2 c2=>
    unfold RB at h
    cases z:e d f with
    |none=>rw[z]at h;cases h
    |some kk=>
     rw[z]at h;have h:_=some k:=h
     cases kk with
     |true=>
      exact .eq (c d f _ _ _ _ _ a q b1 b2 z) (Fi c hl o B c1 c2 h)
     |false=>
      exact .ne (c d f _ _ _ _ _ a q b1 b2 z) (hl d f _ _ _ _ _ a q b1 b2 h)
theorem VD(I:↑1)(B:Wd X.g α S H): ∀ n  A  d f  x y  u v  k ,A.units+n<cLine->Den X.K α H d x->Den X.K α H f y->RelV x u->RelV y v->MF S n d f=some k->
  ∀ prog  w  E Q ,Q (.bool k) s->wpAny ↑6 A (richCompare .Lt u v) Q E s
 |0,_,_,_,_,_,_,_,_,_,_,_,_,_,h=>by cases h
 |n+1,A,d,f,x,y,u,v,k,hu,h1,h2,rx,ry,h=>by
  intro prog w E Q m;unfold MF at h;split at h
  .cases h
  .cases h;cases iV h1;cases iV h2;obtain⟨t,rfl⟩:=rx;obtain⟨L,rfl⟩:=ry;exact(PyProof.Rows.lt_int m:wpAny _ A _ Q E s)
  .cases h;cases sF h1;cases sF h2;obtain⟨t,rfl⟩:=rx;obtain⟨L,rfl⟩:=ry;refine(PySem.P.lt_str ?_:wpAny _ A _ Q E s);exact m
  .rename_i T U es F;refine(bG h1).b λa vs V C M=>?_;subst V;refine(bG h2).b λb W Y O D=>?_;subst Y;subst rx;subst ry;refine(I.tuple C).c λJ N pt _=>?_;refine(I.tuple O).c λq G j _=>?_;cases F;refine Nn pt j ?_ #[0] prog w E Q m
   exact Fi (λd f x y u v k a b c o e=>IV I B n A.in1 d f x y u v k (show A.units+1+n<cLine by lia) a b c o e)
    (λd f x y u v k a b c o e=>VD I B n A.in1 d f x y u v k (show A.units+1+n<cLine by lia) a b c o e) M D N G h
  .cases h
end
section
variable{X:Cx}{b c e:Expr}{es:N0}{f h:AX}
noncomputable def Fj(C:Int->Int->Prop)[∀i j,Decidable (C i j)](g:Int->Int->Int):Er->Er->Sto->R Er
 |.val (.int i),.val (.int j),S=>if C i j then .ok (.val (.int (g i j))) S else .no
 |_,_,_=>.no
noncomputable def zFW(g:Int->Int->Bool):Er->Er->Sto->R Er
 |.val (.int i),.val (.int j),S=>.ok (.val (.bl (g i j))) S
 |_,_,_=>.no
def OG[∀i j,Decidable (C i j)]{g:Int->Int->Int}(h: ∀i j,C i j->C' i j):Cj X W (rI C' λi j=>.int (g i j)) (Fj C g):=by
 intro p q x y α S H Q m o b a;unfold Fj at a;split at a
 .split at a
  .rename_i c;exact Zo _ _ (yM o) (yM b) (h _ _ c) (Post.val a m (xS _))
  .exact a.elim
 .exact a.elim
def VE{g:Int->Int->Int}:Cj X W (Sq λi j=>.int (g i j)) (Fj (λ_ _=>True) g):=by
 intro p q x y α S H Q c m b a;unfold Fj at a;split at a
 .rw[iP trivial]at a;exact Z2 _ _ (yM m) (yM b) (Post.val a c (xS _))
 .exact a.elim
def Np{g:Int->Int->Bool}:Cj X W (Sq λi j=>.bl (g i j)) (zFW g):=by
 intro p q x y α S H Q c m b a;unfold zFW at a;split at a
 .exact(Z2 _ _ (yM m) (yM b) (Post.val a c (bF _)))
 .exact a.elim
abbrev Cp:=Fj (λ_ _=>True) λi j=>i - j
def O7(m:zS X W a f)(c:zS X W b g):zS X W (.BinOp a .Sub b pos) (λρ S=>(f ρ S).bind λp j=>(g ρ j).bind λq S2=>Cp p q S2):=vW (Ss λ_ _ _ _ _ _ _ q=>sub_int q) VE m c
def Uz(_ j:Int):Prop:=0<j/\j.natAbs.log2<9000
instance(i j:Int):Decidable (Uz i j):=inferInstanceAs (Decidable (_/\_))
abbrev YY:=Fj Uz λi j=>i / j
def O8(s:zS X W a f)(o:zS X W b g):zS X W (.BinOp a .FloorDiv b pos) (λρ S=>(f ρ S).bind λp m=>(g ρ m).bind λq S2=>YY p q S2):=vW (zBG λi j _ _ _ _ _ c q=>by refine floordiv_int (by have:=c.1;lia) ?_ (.inl (PyProof.noPylong_of_log2 c.2));rw[(Int.fdiv_eq_ediv_of_nonneg i (Int.le_of_lt c.1))];exact q) (OG λi j h=>h) s o
abbrev RD:=Fj (λ_ j=>0<j) λi j=>i % j
def O9(s:zS X W a f)(o:zS X W b g):zS X W (.BinOp a .Mod b pos) (λρ S=>(f ρ S).bind λp m=>(g ρ m).bind λq S2=>RD p q S2):=vW (zBG λi j _ _ _ _ _ c q=>by have u:_<j:=c;exact mod_int' #[0] (by rw[Int.fmod_eq_emod_of_nonneg i #[0]];exact q)) (OG λi j h=>h) s o
def P4(i j:Int):Prop:=0<=j/\(Builtin.Int.intBits i:Int) * j<=2 ^ 27
instance(i j:Int):Decidable (P4 i j):=inferInstanceAs (Decidable (_/\_))
abbrev Va:=Fj P4 λi j=>i ^ j.toNat
def P5(s:zS X W a f)(o:zS X W b g):zS X W (.BinOp a .Pow b pos) (λρ S=>(f ρ S).bind λp m=>(g ρ m).bind λq S2=>Va p q S2):=vW (zBG λ_ _ _ _ _ _ _ c q=>pow_int c.1 c.2 q) (OG λi j h=>h) s o
def zCZ(i j:Int):Prop:=0<=j/\j<=1000000/\i.natAbs<2 ^ 64
instance(i j:Int):Decidable (zCZ i j):=inferInstanceAs (Decidable (_/\_/\_))
abbrev Nr:=Fj zCZ λi j=>i * 2 ^ j.toNat
def P6(s:zS X W a f)(o:zS X W b g):zS X W (.BinOp a .LShift b pos) (λρ S=>(f ρ S).bind λp m=>(g ρ m).bind λq S2=>Nr p q S2):=vW (zBG λ_ _ _ _ _ _ _ c q=>lshift_int_small c.1 c.2.1 c.2.2 q) (OG λi j h=>h) s o
noncomputable def Nt(S:Sto):Er->Option (List MV)
 |.new ds=>some ds
 |.val (.loc l)=>match S[l]? with
  |some (.lst ds)=>some ds
  |_=>none
 |_=>none
def VF(m:Wd X.g α S H)(e:Nt S r=some ds)(d:DenX X.K α H r x): ∃a vs,x=.ref a/\H a=some (.lst vs)/\DenL X.K α H ds vs:=by
 unfold Nt at e;split at e
 .cases e;refine d.l λb vs k h _ l=>?_;subst k;exact Z2 b vs rfl h l
 .rename_i n;refine(bV d).a λa o h=>?_;subst o;split at e
  .rename_i es j;cases e;refine(m.obj n a _ h j).a λvs c l=>?_;exact Z2 a vs rfl c l
  .cases e
 .cases e
def Fk(p q:Er)(S:Sto):R Er:=match Nt S p,Nt S q with
 |some x,some y=>if x.length+y.length<=sizeLine then .ok (.new (x++y)) S else .no
 |_,_=>.no
def kL:Er->Er->Sto->R Er
 |.val (.int i),.val (.int j),S=>.ok (.val (.int (i+j))) S
 |.val (.str x),.val (.str y),S=>if x.length+y.length<=sizeLine then .ok (.val (.str (x++y))) S else .no
 |.val (.tup x),.val (.tup y),S=>if x.length+y.length<=sizeLine then .ok (.val (.tup (x++y))) S else .no
 |p,q,S=>Fk p q S
def Nu:OpR X (binaryOp .Add) (λx y H Q=> ∃a b ys,x=.ref a/\y=.ref b/\SqT X.K H a []/\SqT X.K H b ys/\Q (.ref b) H):=by
 intro pins s σ H x y v u Q I T J h;refine h.i λa b ys k V U G q=>?_;subst k;subst V;subst T;subst J;refine(I.tuple U).c λL P p1 _=>?_;refine(I.tuple G).c λB W p2 _=>?_;have N:=P.nil_iff.mpr rfl;subst N;obtain⟨⟨E,M,D,sl⟩,C,O,n,hd⟩:=id p1;obtain⟨⟨A,w,_,o⟩,c,m,S,j⟩:=id p2;subst O hd m j
 exact concat_meets {_,C,rfl} {_,c,rfl} noFill_tuple_add seq_tuple_add PySem.F.slot_tuple_add PySem.F.entry_tuple_add (PySem.F.args_tuple_add_2 _ _)
  (tuple_addW0 a b _ _ n S M w sl o rfl) {C,c,(Z2 (.ref b) H I rfl q)}
def P7(U:zS X W a f)(M:zS X W b g):zS X W (.BinOp a .Add b pos) (λρ S=>(f ρ S).bind λp N=>(g ρ N).bind λq S2=>kL p q S2):=by
 refine vW (G3.or (Bw.or (K4.or (Tg.or Nu)))) ?_ U M;intro p q x y α S H Q j u w c;unfold kL at c;split at c
 .exact .inl (Z2 _ _ (yM u) (yM w) (Post.val c j (xS _)))
 .split at c
  .rename_i s;refine .inr (.inl (Zo _ _ (eB u) (eB w) (by rw[nO];exact s) ?_));rw[Tv];exact Post.val c j (sE _)
  .exact c.elim
 .split at c
  .rename_i K I s;refine(dO u).b λv vs k D o=>?_;subst k;refine(dO w).b λB A V G m=>?_;subst V;by_cases J:vs=[]
   .subst J;have E:=o.length;refine .inr (.inr (.inr (.inr (Y4 v B A rfl rfl D G ?_))));have:K=[]:=by cases K with |nil=>rfl|cons _ _=>simp at E
    subst this;exact Post.val c j (nP G m)
   .refine .inr (.inr (.inr (.inl (ZB v B vs A {rfl,rfl,D,G,J,(by rw[o.length,m.length];exact s),(λC=>?_),(λC p F=>Post.newt c j F (o.append m))}))));subst C;have E:=m.length;have:I=[]:=by cases I with |nil=>rfl|cons _ _=>simp at E
    subst this;rw[aN]at c;exact Post.val c j (nP D o)
  .exact c.elim
 .unfold Fk at c;split at c
  .rename_i L Y T O;split at c
   .rename_i s;refine(VF j T u).b λv vs Z C o=>?_;subst Z;refine(VF j O w).b λB A ac P m=>?_;subst ac;exact .inr (.inr (.inl (ZB v B vs A {rfl,rfl,C,P,(by rw[o.length,m.length];exact s),(λp F=>Post.newl c j F (o.append m))})))
   .exact c.elim
  .exact c.elim
def mulC(i j:Int):Prop:=(-(2 ^ 64)<i/\i<2 ^ 64)\/(-(2 ^ 64)<j/\j<2 ^ 64)\/(i.natAbs.log2<4000/\j.natAbs.log2<4000)
theorem Fm(h:i.natAbs.log2<4000):Builtin.Int.intBits i<=2 ^ 20:=by unfold Builtin.Int.intBits;split<;>lia
def mulC.ok(h:mulC i j):IntMulOk i j:=by
 rcases h with h|h|⟨h1,h2⟩
 .exact CMul.ok (.inl h)
 .exact CMul.ok (.inr h)
 .exact .of_bits (Fm h1) (Fm h2)
def Vc:OpR X (binaryOp .Mult) (rI mulC λi j=>.int (i * j)):=zBG λ_ _ _ _ _ _ _ a q=>mul_int q a.ok
instance(i j:Int):Decidable (mulC i j):=inferInstanceAs (Decidable (_\/_\/_))
def A5(p:Er)(k:Int)(S:Sto):R Er:=match Nt S p with
 |some x=>if 0<=k/\k<100000/\x.length * k.toNat<=sizeLine then .ok (.new (List.replicate k.toNat x).flatten) S else .no
 |none=>.no
def EX:Er->Er->Sto->R Er
 |.val (.int i),.val (.int j),S=>if mulC i j then .ok (.val (.int (i * j))) S else .no
 |.val (.str x),.val (.int k),S=>if 0<=k/\k<1000/\x.length<=1000 then .ok (.val (.str (UV x k))) S else .no
 |p,.val (.int k),S=>A5 p k S
 |_,_,_=>.no
theorem DenL.rep{K:O0}(l:DenL K α H ds vs): ∀k:Nat,DenL K α H (List.replicate k ds).flatten (List.replicate k vs).flatten
 |0=>yA
 |k+1=>by rw[Ŋ];exact l.append (DenL.rep l k)
theorem P8(C:zS X W a f)(v:zS X W b g):zS X W (.BinOp a .Mult b pos) (λρ S=>(f ρ S).bind λp D=>(g ρ D).bind λq S2=>EX p q S2):=by
 refine vW (Vc.or (Cg.or K5)) ?_ C v;intro p q x y α S H Q m o s c;unfold EX at c;split at c
 .split at c
  .rename_i j;exact .inl (Zo _ _ (yM o) (yM s) j (Post.val c m (xS _)))
  .exact c.elim
 .split at c
  .rename_i j;exact .inr (.inl (Y6 _ _ {eB o,yM s,j.1,j.2.1,j.2.2,Post.val c m (sE _)}))
  .exact c.elim
 .unfold A5 at c;split at c
  .rename_i F B;split at c
   .rename_i j;refine(VF m B o).b λw vs k A u=>?_;subst k;exact .inr (.inr (Zj w _ vs {rfl,yM s,A,(by lia),(by lia),(by rw[u.length];exact j.2.2),(λp E=>Post.newl c m E (u.rep _))}))
   .exact c.elim
  .exact c.elim
 .exact c.elim
noncomputable def zO:Nat:=40
def vK(p q:Er)(S:Sto):R Er:=match EW S zO p q with
 |some k=>.ok (.val (.bl k)) S
 |none=>.no
def MG(p q:Er)(S:Sto):R Er:=match EW S zO p q with
 |some k=>.ok (.val (.bl !k)) S
 |none=>.no
theorem Nv(B:X.A.units+64<cLine):OpR X (compareOp .Eq) (λx y H Q=> ∃α S p q k,Wd X.g α S H/\DenX X.K α H p x/\DenX X.K α H q y/\EW S zO p q=some k/\Q (.bl k) H):=by intro pins s σ H x y v u Q I o j h;refine h.r λα S p q k m b c e a=>?_;exact O5 I m zO (by unfold zO;lia) b c o j e X.prog X.w _ _ (Z2 (.bl k) H I rfl a)
def Fn:Cj X W (λx y H Q=> ∃α S p q k,Wd X.g α S H/\DenX X.K α H p x/\DenX X.K α H q y/\EW S zO p q=some k/\Q (.bl k) H) vK:=by
 intro p q x y α S H Q b j c a;unfold vK at a;split at a
 .rename_i k e;exact Yi (α) S p q k {b,j,c,e,Post.val a b (bF _)}
 .exact a.elim
def Vd:Cj X W (λx y H Q=> ∃α S p q k,Wd X.g α S H/\DenX X.K α H p x/\DenX X.K α H q y/\EW S zO p q=some k/\Q (.bl (!k)) H) MG:=by
 intro p q x y α S H Q b j c a;unfold MG at a;split at a
 .rename_i k e;exact Yi (α) S p q k {b,j,c,e,Post.val a b (bF _)}
 .exact a.elim
def zDA(c:X.A.units+64<cLine)(o:zS X W a f)(m:zS X W b g):zS X W (.Compare a [.Eq] [b] pos) (λρ S=>(f ρ S).bind λp j=>(g ρ j).bind λq S2=>vK p q S2):=Mz (Nv c) Fn o m
def zDB(c:X.A.units+64<cLine)(o:zS X W a f)(m:zS X W b g):vV X W (.Compare a [.Eq] [b] pos) (λρ S=>((f ρ S).bind λp j=>(g ρ j).bind λq S2=>vK p q S2).bind jM):=sG (Nv c) Fn o m
def zDC(G:X.A.units+64<cLine)(F:zS X W a f)(j:zS X W b g):vV X W (.Compare a [.NotEq] [b] pos) (λρ S=>((f ρ S).bind λp B=>(g ρ B).bind λq S2=>MG p q S2).bind jM):=sG ((by intro pins s σ H x y v u Q I E o h;refine h.r λα S p q k D m C e c=>?_;exact O6 I D zO (by unfold zO;lia) m C E o e X.prog X.w _ _ (Z2 (.bl (!k)) H I rfl c))) Vd F j
def Q1:Er->Er->Sto->R Er
 |.val d,.val f,S=>match MF S zO d f with
  |some k=>.ok (.val (.bl k)) S
  |none=>.no
 |_,_,_=>.no
def Ve:Cj X W (λx y H Q=> ∃α S d f k,Wd X.g α S H/\Den X.K α H d x/\Den X.K α H f y/\MF S zO d f=some k/\Q (.bl k) H) Q1:=by
 intro p q x y α S H Q b c j a;unfold Q1 at a;split at a
 .split at a
  .rename_i k e;exact Yi (α) S _ _ k {b,c,j,e,Post.val a b (bF _)}
  .exact a.elim
 .exact a.elim
def zDD(G:X.A.units+64<cLine)(F:zS X W a f)(j:zS X W b g):vV X W (.Compare a [.Lt] [b] pos) (λρ S=>((f ρ S).bind λp B=>(g ρ B).bind λq S2=>Q1 p q S2).bind jM):=sG ((by intro pins s σ H x y v u Q I E o h;refine h.r λα S d f k D m C e c=>?_;exact VD I D zO X.A d f x y v u k (by unfold zO;lia) m C E o e X.prog X.w _ _ (Z2 (.bl k) H I rfl c))) Ve F j
abbrev Q3:=zFW λi j=>decide (j<i)
def zDE(m:zS X W a f)(c:zS X W b g):zS X W (.Compare a [.Gt] [b] pos) (λρ S=>(f ρ S).bind λp j=>(g ρ j).bind λq S2=>Q3 p q S2):=Mz Zx Np m c
def zDF(m:zS X W a f)(c:zS X W b g):vV X W (.Compare a [.Gt] [b] pos) (λρ S=>((f ρ S).bind λp j=>(g ρ j).bind λq S2=>Q3 p q S2).bind jM):=sG Zx Np m c
noncomputable def DY:Er->Er->Sto->R Er
 |.val .non,.val .non,S=>.ok (.val (.bl false)) S
 |_,.val .non,S=>.ok (.val (.bl true)) S
 |_,_,_=>.no
def Ny:Cj X W (λx y H Q=>y=.non/\Q (.bl (!decide (x=.non))) H) DY:=by
 intro p q x y α S H Q s c o a;unfold DY at a;split at a
 .cases IQ c;exact{IQ o,Post.val a s (bF _)}
 .rename_i v u j;rw[(show decide (x=.non)=false by
   cases p with
   |new ds=>refine c.d λb vs A _=>?_;subst A;rfl
   |val m=>
    cases m with
    |non=>exact absurd rfl (λz=>by first |exact j z|exact j z rfl|exact j _ z|exact j rfl z)
    |bl b=>cases NV c;rfl
    |int b=>cases yM c;rfl
    |str b=>cases eB c;rfl
    |typ b=>cases Mw c;rfl
    |obj b b' b''=>refine(Ci c).q λ_ _ _ _ _ k=>k.elim λB _=>?_;subst B;rfl
    |tup b=>refine(dO c).d λ_ _ C _=>?_;subst C;rfl
    |scr b=>refine(NW c).d λ_ _ D _=>?_;subst D;rfl
    |loc b=>obtain⟨_,rfl,_⟩:=bV c;rfl)];exact{IQ o,Post.val a s (bF _)}
 .exact a.elim
def Nz(w:zS X W a f)(j:zS X W b g):vV X W (.Compare a [.IsNot] [b] pos) (λρ S=>((f ρ S).bind λp m=>(g ρ m).bind λq S2=>DY p q S2).bind jM):=sG (by
  intro pins s σ H x y v u Q I c o h;obtain⟨rfl,q⟩:=h;subst o;refine isnot_none_gen (Bu I q ?_)
  cases x<;>first
   |(subst c;rfl)
   |(obtain⟨t,rfl⟩:=c;rfl)) Ny w j
def getL(ds:Q0):Er->Sto->R Er
 |.val (.int i),S=>match DV ds i with |some d=>.ok (.val d) S|none=>.no
 |_,_=>.no
def yE:Er->Er->Sto->R Er
 |.val (.str x),.val (.int i),S=>if x.length<=sizeLine then match DV x i with |some c=>.ok (.val (.str [c])) S|none=>.no else .no
 |.val (.tup ds),q,S=>getL ds q S
 |p,q,S=>match xQ S p with |some ds=>getL ds q S|none=>.no
def Vf{K:O0}(l:DenL K α H ds vs)(e:DV ds i=some d): ∃v,DV vs i=some v/\Den K α H d v:=by
 unfold DV at e ⊢;rw[l.length]
 cases z:QR ↑11 i with
 |none=>rw[z]at e;cases e
 |some j=>
  rw[z]at e;refine(l.at e).a λv a b=>?_;exact Z3 v a b
def zDG(J:zS X W a f)(E:zS X W b g)(hs:MB b:=by exact λ_ _=>rfl):zS X W (.Subscript a b pos) (λρ S=>(f ρ S).bind λp G=>(g ρ G).bind λq S2=>yE p q S2):=by
 refine A2 (Ti.or (ix_tup.or ix_str)) ?_ J E hs;intro p q x y α S H Q B u A c;have j: ∀{ds:Q0}{vs:List V}{i:Int}{d:MV},DenL X.K α H ds vs->DV ds i=some d->Post X.g W α H _ Q-> ∃v,DV vs i=some v/\Q v H:=λl e c=>by refine(Vf l e).a λv o m=>?_;exact{v,o,Post.val c B m}
 unfold yE at c;split at c
 .split at c
  .rename_i I;split at c
   .rename_i D e;refine .inr (.inr (Y4 _ _ D (eB u) (yM A) (by rw[nO];exact I) (by rw[Tu];exact e) ?_));exact Post.val c B (sE [D])
   .exact c.elim
  .exact c.elim
 .unfold getL at c;split at c
  .split at c
   .rename_i d e;refine(dO u).b λw vs k s C=>?_;subst k;refine(j C e c).a λv o m=>?_;exact .inr (.inl (ZB w vs _ v {rfl,yM A,s,o,m}))
   .exact c.elim
  .exact c.elim
 .split at c
  .rename_i ds F;unfold getL at c;split at c
   .split at c
    .rename_i d e;refine(oS rfl B F u).b λw vs L s C=>?_;subst L;refine(j C e c).a λv o m=>?_;exact .inl (ZB w vs _ v {rfl,yM A,s,o,m})
    .exact c.elim
   .exact c.elim
  .exact c.elim
end
def RE{lo:M0}(j:IsTup s.heap t its)(hs:s.heap.IsSliceOf sl vl vu .none)(o:IsPart vl lo)(q:IsPart vu hi)
  (h0:HT.sIx its.size 0 lo=0) (h1:HT.sIx its.size its.size hi=its.size) (h:Q (.ref t) s):wpAny ↑6 A (getItem (.ref t) (.ref sl)) Q E s:=by
 have a:=j.typeIs;unfold getItem
 try with_reducible refine ð ?_
 first |refine wB _|skip
 refine wB (wpAny_sequenceKey a ↑15 ?_);refine wB (í a Ī (é Ī a entry_tuple_getitem ?_ (args_tuple_getitem _ _)));show wpAny _ _ (Builtin.Tuple.tupleItemsOf _ >>= _) _ _ s;refine wB (tupleItemsOf_ j (wB (Č (by refine(id hs).c λm c b _=>?_;exact Z3 m c b) ?_)));refine wB (HT.sliceApplied_gen hs o q ?_);show wpAny _ _ (if _=true then _ else _) _ _ s;rw[iP (by rw[h0,h1];simp)];refine wB (wB (Č a (wP ?_)));refine wB (Ě ?_)
 first
  |exact wP (Z3 _ rfl (wP h))
  |exact wB _
  |exact wB _
section
variable{e:Expr}{h:AX}
def Vg:SlR X (λx lo hi H Q=> ∃a xs,x=.ref a/\SqT X.K H a xs/\HT.sIx ↑7 0 lo=0/\HT.sIx ↑7 ↑7 hi=↑7/\Q (.ref a) H):=by
 intro pins s σ H x v B C lo hi sl Q I A hs o u h;refine h.n λa xs k y m w q=>?_;subst k;subst A;refine(I.tuple y).c λc r j D=>?_;have b:c.toArray.size=xs.length:=by rw[sA];exact r.length.symm
 exact Z2 _ _ PyProof.Rows.slot_tuple_getitem.lookup j.typeIs (RE j hs o u (by rw[b];exact m) (by rw[b];exact w) (Z2 (.ref a) H I rfl q))
def DP:Er->Option Int->Option Int->Sto->R Er
 |.val (.str x),lo,hi,S=>if x.length<=sizeLine then .ok (.val (.str (dM x lo hi))) S else .no
 |.val (.tup ds),lo,hi,S=>.ok (.val (.tup (dM ds lo hi))) S
 |p,lo,hi,S=>match xQ S p with |some ds=>.ok (.new (dM ds lo hi)) S|none=>.no
def Iz{lo:M0}(a:HT.sIx ↑11 0 lo=0)(b:HT.sIx ↑11 ↑11 hi=↑11):dM ds lo hi=ds:=by unfold dM;rw[a,b];simp
def Q4{lo:Option Expr}(E:zS X W a f)(C:L4 X W lo lf)(y:L4 X W hi hf):zS X W (.Subscript a (.Slice lo hi none p2) pos) (λρ S=>(f ρ S).bind λp B=>(lf ρ B).bind λl S2=>(hf ρ S2).bind λu D=>DP p l u D):=by
 refine Nf (K7.or (Tj.or (J8.or Vg))) ?_ E C y;intro p lo hi x α S H Q m q b;unfold DP at b;split at b
 .split at b
  .rename_i A;exact .inl (Z0 _ (eB q) A (Post.val b m (sE _)))
  .exact b.elim
 .rename_i _ _ _ v;refine(dO q).b λo vs k j c=>?_;subst k;by_cases hw:HT.sIx ↑9 0 lo=0/\HT.sIx ↑9 ↑9 hi=↑9
  .have e:=Iz (by rw[<-c.length];exact hw.1) (by rw[<-c.length];exact hw.2);rw[e]at b;exact .inr (.inr (.inr (Ys o vs rfl j hw.1 hw.2 (Post.val b m (nP j c)))))
  .exact .inr (.inr (.inl (Zo o vs rfl j hw (λp s=>Post.newt b m s (c.cut lo hi)))))
 .split at b
  .rename_i v w;refine(oS rfl m w q).b λo vs F j c=>?_;subst F;exact .inr (.inl (Z2 o vs rfl j (λp s=>Post.newl b m s (c.cut lo hi))))
  .exact b.elim
theorem DenL.pick{K:O0}(l:DenL K α H ds vs): ∀j:List Nat,DenL K α H (j.filterMap (ds[·]?)) (j.filterMap (vs[·]?))
 |[]=>yA
 |i::j=>by
  cases z:ds[i]? with
  |none=>
   rw[ŀ z,ŀ (by rw[Ĺ,l.length];exact Ĺ.mp z)];exact DenL.pick l j
  |some d=>
   refine(l.at z).a λv m q=>?_;rw[ł z,ł m];exact zT q (DenL.pick l j)
theorem Vals.pick(r:Vals xs us): ∀j:List Nat,Vals (j.filterMap (xs[·]?)) (j.filterMap (us[·]?))
 |[]=>.nil
 |i::j=>by
  cases z:xs[i]? with
  |none=>rw[ŀ z,ŀ (r.none_of z)];exact Vals.pick r j
  |some d=>
   refine(r.get z).a λv m q=>?_;rw[ł z,ł m];exact .cons q (Vals.pick r j)
end
section
variable{X:Cx}{W:XW}{a b c e:Expr}{g h:AX}
def YZ(S:Sto)(n:Nat)(d:MV):List MV->Option (List Bool)
 |[]=>some []
 |y::ys=>(eqv S n y d).bind λk=>(YZ S n d ys).map (k::·)
section
variable{α:B9}{S:Sto}{H:Hp}{pins:L0}{σ:St}{s:Ō}
def Vh(X:Cx)(α:B9)(S:Sto)(H:Hp)(n:Nat)(d:MV)(u:ō):Bool:=open Classical in decide (∃y x,Den X.K α H y x/\RelV x u/\eqv S n y d=some true)
open Classical in
def Vi(I:↑1)(o:Wd X.g α S H){n:Nat}{d y:MV}{x:V}{u:ō}{k:Bool}(c:Den X.K α H y x)(r:RelV x u)(e:eqv S n y d=some k):Vh X α S H n d u=k:=by
 unfold Vh
 cases k with
 |true=>exact dT0 ⟨y,x,c,r,e⟩
 |false=>
  refine dF0 λ⟨v,q,a,j,b⟩=>?_;have m:=r.inj j;subst m;rw[c.inj I o a]at e;rw[e]at b;cases b
theorem GU(I:↑1)(c:Wd X.g α S H)(b:A.units+n<cLine)(o:Den X.K α H d x)(w:RelV x v): ∀{ys}{vs}{us}{bs},DenL X.K α H ys vs->Vals vs us->YZ S n d ys=some bs->
  us.map (Vh X α S H n d)=bs/\ ∀u∈us,SeqAt.EqAt A s u v (Vh X α S H n d u)
 |[],_,_,bs,l,r,e=>by cases l.isnil;cases r;cases e;exact{rfl,λu b=>by cases b}
 |y::ys,_,_,bs,l,r,e=>by
  refine l.uncons.b λJ G E m D=>?_;subst E
  cases r with
  |cons r1 r2=>
   unfold YZ at e
   cases z:eqv S n y d with
   |none=>rw[z]at e;cases e
   |some k=>
    rw[z]at e
    cases j:YZ S n d ys with
    |none=>simp[j]at e
    |some cs=>
     simp[j]at e;subst e;obtain⟨C,B⟩:=GU I c b o w D r2 j;have q:=Vi I c m r1 z;refine{by rw[ç,C,q],λu a=>?_};rcases mC.mp a with rfl|a
     .rw[q];exact IV I c n A y d _ _ _ _ k b m o r1 w z
     .exact B u a
end
theorem any_map{us:A0}{f:ō->Bool}(h:us.map f=bs):us.toArray.any f=bs.any id:=by subst h;simp[List.any_map]
def itemsOf(S:Sto):Er->Option (List MV)
 |.val (.tup ds)=>some ds
 |r=>xQ S r
def GV(b:Wd X.g α S H)(e:itemsOf S r=some ds)(d:DenX X.K α H r x): ∃a vs,x=.ref a/\(SqL X.K H a vs\/SqT X.K H a vs)/\DenL X.K α H ds vs:=by
 unfold itemsOf at e;split at e
 .cases e;refine(dO d).b λa vs j s l=>?_;subst j;exact Z2 a vs rfl (.inr s) l
 .refine(oS rfl b e d).b λa vs k s l=>?_;subst k;exact Z2 a vs rfl (.inl s) l
def VG(a:Bool)(p q:Er)(S:Sto):R Er:=match p with
 |.val d=>match itemsOf S q with
  |some ys=>match YZ S zO d ys with
   |some bs=>.ok (.val (.bl (if a=true then !bs.any id else bs.any id))) S
   |none=>.no
  |none=>.no
 |.new _=>.no
def QS(a:Bool):Er->Er->Sto->R Er
 |.val (.str [c]),.val (.str y),S=>.ok (.val (.bl (if a=true then !decide (c∈y)else decide (c∈y)))) S
 |p,q,S=>VG a p q S
abbrev Oa(X:Cx)(a:Bool):R2:=λx y H Q=> ∃α S d q ys bs,Wd X.g α S H/\Den X.K α H d x/\DenX X.K α H q y/\itemsOf S q=some ys/\YZ S zO d ys=some bs/\Q (.bl (if a=true then !bs.any id else bs.any id)) H
theorem Q5(L:X.A.units+64<cLine):OpR X (compareOp .In) (Oa X false):=by
 intro pins s σ H x y v u Q I F J h;refine h.u λα S d q ys bs k=>k.e λj C G K E D=>?_;refine(GV j K G).b λa vs M b l=>?_;subst M;subst J;rcases b with b|b
 .obtain⟨c,r,m,_⟩:=I.list b;rw[23];refine SeqAt.in_listAt _ m.isList (λw hw=>B w (by simpa using hw)) {.bl _,H,I,rfl,?_};rw[any_map o];exact D
 .obtain⟨c,r,m,_⟩:=I.tuple b;rw[23];refine SeqAt.in_tupleAt _ m (λw hw=>B w (by simpa using hw)) {.bl _,H,I,rfl,?_};rw[any_map o];exact D
theorem Ja(L:X.A.units+64<cLine):OpR X (compareOp .NotIn) (Oa X true):=by
 intro pins s σ H x y v u Q I F J h;refine h.u λα S d q ys bs k=>k.e λj C G K E D=>?_;refine(GV j K G).b λa vs M b l=>?_;subst M;subst J;rcases b with b|b
 .obtain⟨c,r,m,_⟩:=I.list b;rw[23];refine SeqAt.notIn_listAt _ m.isList (λw hw=>B w (by simpa using hw)) {.bl _,H,I,rfl,?_};rw[any_map o];exact D
 .obtain⟨c,r,m,_⟩:=I.tuple b;rw[23];refine SeqAt.notIn_tupleAt _ m (λw hw=>B w (by simpa using hw)) {.bl _,H,I,rfl,?_};rw[any_map o];exact D
def Fo:Cj X W (λx y H Q=>(∃i j,x=.str i/\y=.str j/\Q (.bl (if neg=true then !(!(Builtin.Str.occurrences j i 0 j.length 1).isEmpty)else !(Builtin.Str.occurrences j i 0 j.length 1).isEmpty)) H)\/Oa X neg x y H Q) (QS neg):=by
 intro p q x y α S H Q b c m a;unfold QS at a;split at a
 .refine .inl (Z2 _ _ (eB c) (eB m) ?_);rw[<-Tw,PySem.StrLaws.found_one];exact Post.val a b (bF _)
 .unfold VG at a;split at a
  .rename_i d _;split at a
   .rename_i ys s;split at a
    .rename_i bs o;exact .inr (XV (α) S _ q ys bs {b,c,m,s,o,Post.val a b (bF _)})
    .exact a.elim
   .exact a.elim
  .exact a.elim
def OpR.imp{f:ō->ō->Sem ō}(h:OpR X f r)(i: ∀x y H Q,r' x y H Q->r x y H Q):OpR X f r':=λpins s σ H x y v u Q I b a q=>h pins s σ H x y v u Q I b a (i x y H Q q)
def zDH(c:X.A.units+64<cLine)(s:zS X W a f)(o:zS X W b g)(j:behindInMarks .In b=false:=by with_unfolding_all rfl):vV X W (.Compare a [.In] [b] pos) (λρ S=>((f ρ S).bind λp m=>(g ρ m).bind λq S2=>QS false p q S2).bind jM):=sG ((OpR.imp (Ia.or (Q5 c)) λx y H Q q=>q.imp (λq=>q) λq=>q)) Fo s o j
def Ob(c:X.A.units+64<cLine)(s:zS X W a f)(o:zS X W b g)(j:behindInMarks .NotIn b=false:=by with_unfolding_all rfl):vV X W (.Compare a [.NotIn] [b] pos) (λρ S=>((f ρ S).bind λp m=>(g ρ m).bind λq S2=>QS true p q S2).bind jM):=sG ((OpR.imp (UK.or (Ja c)) λx y H Q q=>q.imp (λq=>q) λq=>q)) Fo s o j
def dI{K:O0}(d:ArgsX K α H [r] vs): ∃v,vs=[v]/\DenX K α H r v:=by
 cases d with
 |cons a l=>cases l;exact Z3 _ rfl a
def zDI{K:O0}(d:ArgsX K α H [r,r'] vs): ∃v u,vs=[v,u]/\DenX K α H r v/\DenX K α H r' u:=by
 cases d with
 |cons a l=>refine(dI l).a λu j b=>?_;subst j;exact Z2 _ u rfl a b
def dQ:List Er->Sto->R Er
 |[.val (.str x)],S=>if x.length<=sizeLine then .ok (.val (.int x.length)) S else .no
 |[r],S=>match itemsOf S r with |some ds=>.ok (.val (.int ds.length)) S|none=>.no
 |_,_=>.no
def Q7:dH X W (λxs H Q=>(∃z,xs=[.str z]/\z.length<=sizeLine/\Q (.int z.length) H)\/ ∃p ys,xs=[.ref p]/\(SqL X.K H p ys\/SqT X.K H p ys)/\Q (.int ys.length) H) dQ:=by
 intro rs vs α S H Q j d b;unfold dQ at b;split at b
 .split at b
  .rename_i o;refine(dI d).a λv k c=>?_;subst k;cases eB c;refine .inl {_,rfl,by rw[nO];exact o,?_};exact Post.val b j (xS _)
  .exact b.elim
 .split at b
  .rename_i s e;refine(dI d).a λv u c=>?_;subst u;refine(GV j e c).b λa m y q l=>?_;subst y;refine .inr (Z2 a m rfl q ?_);rw[l.length];exact Post.val b j (xS _)
  .exact b.elim
 .exact b.elim
def Jc:CallR X (.builtin "len") (λxs H Q=>(∃z,xs=[.str z]/\z.length<=sizeLine/\Q (.int z.length) H)\/ ∃p ys,xs=[.ref p]/\(SqL X.K H p ys\/SqT X.K H p ys)/\Q (.int ys.length) H):=UR.or (by
  intro pins s σ H xs y Q I r h;refine h.b λp ys k b q=>?_;subst k;refine(vals1 r).a λu A o=>?_;subst A;subst o;have w:=ER;rcases b with b|b
  .obtain⟨m,c,j,v⟩:=I.list b;have a:=c.length;exact Calls.call_len_list j.isList (by simp only[sA]<;>lia) {.int ys.length,H,I.tok _,{_,by rw[sA,a]},q}
  .obtain⟨m,c,j,v⟩:=I.tuple b;have a:=c.length;exact len_tuple j (by simp only[sA]<;>lia) {.int ys.length,H,I.tok _,{_,by rw[sA,a]},q})
noncomputable def DZ:List MV->Option (List Bool)
 |[]=>some []
 |.bl b::r=>(DZ r).map (b::·)
 |_::_=>none
theorem IW{K:O0}: ∀{ds}{bs}{vs},DZ ds=some bs->DenL K α H ds vs->vs=bs.map V.bl
 |[],_,_,e,l=>by cases e;exact l.isnil
 |d::r,bs,_,e,l=>by
  cases d with
  |bl b=>
   unfold DZ at e
   cases z:DZ r with
   |none=>rw[z]at e;cases e
   |some cs=>
    rw[z]at e;cases e;refine l.uncons.b λv us a j m=>?_;subst a;rw[SQ j,IW z m];rfl
  |_=>cases e
def Q8:List Er->Sto->R Er
 |[r],S=>match (xQ S r).bind DZ with |some bs=>.ok (.val (.bl (bs.all id))) S|none=>.no
 |_,_=>.no
def Oc:List Er->Sto->R Er
 |[r],S=>match (xQ S r).bind DZ with |some bs=>.ok (.val (.bl (bs.any id))) S|none=>.no
 |_,_=>.no
def Q9(m:X.calm=true):dH X W (λxs H Q=> ∃(a:Addr)(bs:L1),xs=[.ref a]/\SqL X.K H a (bs.map V.bl)/\X.calm=true/\Q (.bl (bs.all id)) H) Q8:=by
 intro rs vs α S H Q c d b;unfold Q8 at b;split at b
 .split at b
  .rename_i bs e;refine(dI d).a λv k j=>?_;subst k
   cases z:xQ S _ with
   |none=>rw[z]at e;cases e
   |some ds=>
    rw[z]at e;refine(oS rfl c z j).b λo q u s l=>?_;subst u;refine Zo o bs rfl ?_ m (Post.val b c (bF _));rw[<-IW e l];exact s
  .exact b.elim
 .exact b.elim
def VH(S:Sto):Er->Option String
 |.val .non=>some "NoneType"
 |.val (.bl _)=>some "bool"
 |.val (.int _)=>some "int"
 |.val (.str _)=>some "str"
 |.val (.tup _)=>some "tuple"
 |.val (.typ _)=>none
 |.val (.obj _ _ _)=>none
 |r=>(xQ S r).map λ_=>"list"
noncomputable def Vj(t T:String):Bool:=t==T || (t=="bool"&&T=="int")
noncomputable def known(T:String):Bool:=T=="int" || T=="bool" || T=="str" || T=="tuple" || T=="list"
def VI:List Er->Sto->R Er
 |[r,.val (.typ T)],S=>match VH S r with
  |some t=>if known T=true then .ok (.val (.bl (Vj t T))) S else .no
  |none=>.no
 |_,_=>.no
theorem iO(K)(c:t="NoneType"\/t="bool"\/t="int"\/t="str"\/t="tuple"\/t="list")(b:known T=true):PySem.W.kitOne K (.type t) (.type T)=some (Vj t T):=by
 have a:T="int"\/T="bool"\/T="str"\/T="tuple"\/T="list":=by
  unfold known at b;simp only[Bool.or_eq_true,ĺ]at b;rcases b with(((h|h)|h)|h)|h
  .exact .inl h
  .exact .inr (.inl h)
  .exact .inr (.inr (.inl h))
  .exact .inr (.inr (.inr (.inl h)))
  .exact .inr (.inr (.inr (.inr h)))
 rcases c with rfl|rfl|rfl|rfl|rfl|rfl<;>rcases a with rfl|rfl|rfl|rfl|rfl<;>kernel_rfl
def Od:CallR X (.builtin "isinstance") (λxs H Q=> ∃α S r x t T,xs=[x,.ty T]/\Wd X.g α S H/\DenX X.K α H r x/\VH S r=some t/\known T=true/\Q (.bl (Vj t T)) H):=by
 intro pins s σ H xs G Q I D h;refine h.u λα S r x t T k=>k.e λL C d b j q=>?_;subst L;refine(vals2 D).b λu J M m E=>?_;subst M;subst E;have c: ∀B,EP X pins σ Q _ {s with toks:=B}:=λB=>(Z2 (.bl _) H (I.tok _) rfl q)
 unfold VH at b;split at b
 .cases b;cases IQ d;subst m;exact PySem.W.kia_one PySem.W.kitx_none I.kIn True.intro (iO X.K (.inl rfl) j) (λz=>nomatch z) c
 .cases b;cases NV d;subst m;exact PySem.W.kia_one PySem.W.kitx_bool I.kIn True.intro (iO X.K (.inr (.inl rfl)) j) (λz=>nomatch z) c
 .cases b;cases yM d;obtain⟨t,rfl⟩:=m;exact PySem.W.kia_one PySem.W.kitx_int I.kIn True.intro (iO X.K (.inr (.inr (.inl rfl))) j) (λz=>nomatch z) c
 .cases b;cases eB d;obtain⟨t,rfl⟩:=m;exact PySem.W.kia_one PySem.W.kitx_str I.kIn True.intro (iO X.K (.inr (.inr (.inr (.inl rfl)))) j) (λz=>nomatch z) c
 .cases b;refine(dO d).b λa vs N w l=>?_;subst N;subst m;refine(I.tuple w).c λv F p1 _=>?_;refine p1.c λo y A _=>?_;exact PySem.W.kia_one PySem.W.kitx_tuple I.kIn (Z3 o y A) (iO X.K (.inr (.inr (.inr (.inr (.inl rfl))))) j) (λz=>nomatch z) c
 .cases b
 .cases b
 .cases z:xQ S r with
  |none=>rw[z]at b;cases b
  |some ds=>
   rw[z]at b;cases b;refine(oS rfl C z d).b λa vs O w l=>?_;subst O;subst m;refine(I.list w).c λv F p1 _=>?_;refine p1.isList.c λo y A _=>?_;exact PySem.W.kia_one PySem.W.kitx_list I.kIn (Z3 o y A) (iO X.K (.inr (.inr (.inr (.inr (.inr rfl))))) j) (λz=>nomatch z) c
def R1:dH X W (λxs H Q=> ∃α S r x t T,xs=[x,.ty T]/\Wd X.g α S H/\DenX X.K α H r x/\VH S r=some t/\known T=true/\Q (.bl (Vj t T)) H) VI:=by
 intro rs vs α S H Q b d a;unfold VI at a;split at a
 .split at a
  .rename_i t m;split at a
   .rename_i j;refine(zDI d).b λv u k c o=>?_;subst k;cases Mw o;exact XV (α) S _ v t _ {rfl,b,c,m,j,Post.val a b (bF _)}
   .exact a.elim
  .exact a.elim
 .exact a.elim
def bW:List Er->Sto->R Er
 |[.val (.tup ds)],S=>.ok (.val (.tup ds)) S
 |[r],S=>match xQ S r with |some ds=>.ok (.val (.tup ds)) S|none=>.no
 |_,_=>.no
def Oe:dH X W (λxs H Q=> ∃p ys,xs=[.ref p]/\((SqL X.K H p ys/\ ∀l,H l=none->Q (.ref l) (yP H l (.tup ys)))\/(SqT X.K H p ys/\Q (.ref p) H))) bW:=by
 intro rs vs α S H Q o d b;unfold bW at b;split at b
 .obtain⟨v,rfl,j⟩:=dI d;refine(dO j).b λa m k c l=>?_;subst k;exact ZX a m rfl (.inr {c,Post.val b o (nP c l)})
 .split at b
  .rename_i s e;refine(dI d).a λv u j=>?_;subst u;refine(oS rfl o e j).b λa m y c l=>?_;subst y;exact ZX a m rfl (.inl {c,λp q=>Post.newt b o q l})
  .exact b.elim
 .exact b.elim
def OH:List Er->Sto->R Er
 |[r],S=>match itemsOf S r with |some ds=>.ok (.new ds) S|none=>.no
 |_,_=>.no
def Vk:dH X W (λxs H Q=> ∃p ys,xs=[.ref p]/\(SqL X.K H p ys\/SqT X.K H p ys)/\ ∀l,H l=none->Q (.ref l) (yP H l (.lst ys))) OH:=by
 intro rs vs α S H Q c d b;unfold OH at b;split at b
 .split at b
  .rename_i s e;refine(dI d).a λv k j=>?_;subst k;refine(GV c e j).b λa m u o l=>?_;subst u;exact Z2 a m rfl o (λp q=>Post.newl b c q l)
  .exact b.elim
 .exact b.elim
def Of:bootBuiltins "len"=some (.builtin "len"):=by decide+kernel
def R3:bootBuiltins "all"=some (.builtin "all"):=by decide+kernel
def R4:bootBuiltins "any"=some (.builtin "any"):=by decide+kernel
def RF:bootBuiltins "isinstance"=some (.builtin "isinstance"):=by decide+kernel
def R5:bootBuiltins "str"=some (.type "str"):=by decide+kernel
def OI:bootBuiltins "tuple"=some (.type "tuple"):=by decide+kernel
def VJ:bootBuiltins "list"=some (.type "list"):=by decide+kernel
end
section
variable{X:Cx}{a o:Expr}{es:N0}{g h:AX}{pos apos:Pos}
def wZ(p:Er)(S:Sto):Bool:=(xQ S p).isSome
def Cq:TyM X "list" wZ:=by
 intro p x α S H b d h;unfold wZ at h
 cases z:xQ S p with
 |none=>rw[z]at h;cases h
 |some ds=>
  refine(oS rfl b z d).b λa vs j s l=>?_;subst j;exact .inl ⟨rfl,vs,s⟩
def strIdx(x y:Db):Option Nat:=(Builtin.Str.occurrences (pU x) (pU y) 0 (pU x).length 1).head?
noncomputable def RG(p:Er)(S:Sto)(G:List MV->Option (List MV)):R Er:=match p with
 |.val (.loc l)=>match S[l]? with
  |some (.lst ds)=>match G ds with
   |some es=>.ok (.val .non) (S.set l (.lst es))
   |none=>.no
  |_=>.no
 |_=>.no
def SS(j:Wd X.g α S H)(s:Ext α0 H0 α H)(u:DenX X.K α H p x)(b:Post X.g W α0 H0 (RG p S G) Q):
  ∃a vs ds es,x=.ref a/\H a=some (.lst vs)/\DenL X.K α H ds vs/\G ds=some es/\ ∀us,DenL X.K α H es us->Q .non (yP H a (.lst us)):=by
 unfold RG at b;split at b
 .rename_i l;refine(bV u).a λa k h=>?_;subst k;refine(j.of h).a λob A v=>?_;rw[A]at b
  cases ob with
  |lst ds=>
   refine v.a λvs c q=>?_;have b:Post X.g W α0 H0 (match G ds with |some es=>R.ok _ _|none=>R.no) Q:=b;split at b
   .rename_i es y;refine ZB a vs ds es {rfl,c,q,y,(λus w=>?_)};have m:=j.writex h (Lm c) (o:=.lst us);exact(b.shift (s.trans m)).val (j.write h (Lm c) (Z3 us zM (w.ext m))) GP
   .exact b.elim
  |dic _=>exact b.elim
  |ins _ _=>exact b.elim
  |rcd _ _=>exact b.elim
  |fdc _=>exact b.elim
 .exact b.elim
def rH:Er->List Er->Sto->R Er
 |p,[r],S=>(kM r S).bind λy j=>RG p j λds=>if ds.length<sizeLine then some (ds++[y])else none
 |_,_,_=>.no
def Je:YV X W Ew rH:=by
 intro p rs x vs α S I H Q c D E w o b
 match rs,o,b with
 |[],_,b=>exact b.elim
 |_::_::_,_,b=>exact b.elim
 |[r],o,b=>
  cases o with
  |cons d n l=>
   cases l;refine(dP D E d).i λN O α' v A J M C=>?_;have b:Post X.g W c I ((kM r S).bind λy B=>RG p B λj=>if j.length<sizeLine then some _ else none) Q:=b;rw[v]at b
   have s:DenX X.K α' H p x:=by
    cases p with
    |val m=>exact Den.ex0 J w
    |new j=>exact b.elim
   refine(SS M A s b).o λa G j es P F u q k=>?_;subst P;split at q
   .rename_i L;cases q;exact Y4 a G _ rfl rfl F (by rw[u.length];exact L) (k _ (u.append (zT C yA)))
   .cases q
def Jf(w:zS X W a f)(B:KQ X W (e::es) af)
  (hbase:attributeBase a "append" X.env (eval a X.env)=eval a X.env:=by rfl)
  (hfew:((backTo pos (starEach (e::es) X.env)).all (λx=>!x.1)&&(backToKw pos (keywordEach [] X.env)).all (λx=>x.1.isSome)
   &&decide ↑3)=true:=by rfl)
  (hline:(apos.endLine==pos.line)=true:=by rfl) (hs:q9 X e es:=by rfl) (hplain:Q2 X pos es:=by rfl):
  zS X W (.Call (.Attribute a "append" apos) (e::es) [] pos) (λρ S=>(f ρ S).bind λp j=>if wZ p j=true then(af ρ j).bind λrs S2=>rH p rs S2 else .no):=
 UZ PySem.F.plainAttrs_list PySem.F.slot_list_append PySem.F.type_list_append (by
   intro pins s σ H x vs v C Q I A o h;refine h.i λl xs y k G c D q=>?_;subst k;subst G;subst A;refine o.one.a λu J m=>?_;subst J;obtain⟨z,b,n,r,E,e⟩:=I.lstM c;refine ģ F.slot_list_append {_,e,rfl} F.entry_list_append (F.args_list_append_2 _ _) (PySem.list_append l b.toArray n u (by rw[sA];lia)) {e,?_};refine Z2 .non _ (I.lset c e (by simp) (r.append (.cons m .nil)) ?_) rfl q;refine qq lA (qq lS ?_)
   lia) Je Cq w B hbase hfew hline hs hplain
def KU(p q:Er)(d:MV)(ρ:Rho)(S:Sto):R Rho:=match p,q with
 |.val (.loc l),.val (.int k)=>match S[l]? with
  |some (.lst ds)=>match QR ds.length k with
   |some j=>.ok ρ (S.set l (.lst (ds.set j d)))
   |none=>.no
  |_=>.no
 |_,_=>.no
def R7(C:zS X W o f)(hi:zS X W i g)
  (ha: ∀v,assign (.Subscript o i pos) X.env v=(do
   let m <-holding [v] (eval o X.env);let G <-holding [v,m] (eval i X.env)
   standAt pos
   holding [v,m,G] (setItem m G v)
   release [v,m,G] []):=by intro _;rfl):Iu X W (.Subscript o i pos) (λd ρ S=>(f ρ S).bind λp B=>(g ρ B).bind λq S2=>KU p q d ρ S2):=by
 refine C.a λto C K=>?_;refine hi.a λti hi M=>?_;refine Z3 _ (Br C hi set_list ha) (λα ρ S σ H d v Q O sl de q=>K α ρ S σ H _ O sl (q.bind λu p B A J e1 s Z N I=>M A ρ B σ J _ Z (sl.ext s) ((I.shift s).bind λu2 p2 S2 c L e2 w y P b=>?_)))
 replace b:=b.shift w
 unfold KU at b;split at b
 .rename_i l k;refine(bV (DenX.ext w N.1)).a λa V h=>?_;subst V;cases yM P.1;refine(y.of h).a λob T U=>?_;rw[T]at b
  cases ob with
  |lst ds=>
   refine U.a λvs D F=>?_;have b:Post X.g W c L (match QR ds.length k with |some j=>R.ok ρ _|none=>R.no) Q:=b;split at b
   .rename_i j Y;have E:=y.writex h (Lm D) (o:=.lst (vs.set j v));exact ZB a vs k j {rfl,rfl,D,(by rw[F.length];exact Y),b σ c _ E (y.write h (Lm D) (Z3 _ zM ((F.set ((de.ext s).ext w) j).ext E))) (((sl.ext s).ext w).ext E)}
   .exact b.elim
  |dic _=>exact b.elim
  |ins _ _=>exact b.elim
  |rcd _ _=>exact b.elim
  |fdc _=>exact b.elim
 .exact b.elim
end
def _root_.L2.Inv.turnedL{fp:B9}(I:↑1)(k: ∀b o,b∉fp->s.heap.get? b=some o->h'.get? b=some o)
  (hf: ∀b∈fp,rZ X pins H b):Inv X pins σ H {s with heap:=h',toks:=t'}:=by
 have j: ∀b u,H b=some u->b∉fp:=λb u e z=>by rw[(hf b z).1]at e;cases e
 refine I.step (λb w=>{(hf b w).2.2.2.1,(hf b w).2.1,(hf b w).2.2.2.2.1,(hf b w).2.2.2.2.2}) (λb o _ _ a e _=>k b o a e) (λb o _ _ a e _=>{_,k b o a e}) (λ_ _ _ _ n=>n)
  (λb o a e=>{o,k b o a e}) (λ_ _ e=>e) (λ_ _ _ e=>e) (λ_ _ e=>e) (λm B=>?_) (λb u e=>?_) I.bare
 .refine B.m λo es A y r=>?_;exact YX o es A (k _ o (λz=>(hf _ z).2.1 rfl) y) r
 .refine(I.hok b u e).stay (λc v a q=>k c v ?_ q) (λ_ q=>q) (λ_ _ q=>q) λ_ _ _ q=>q;rcases a with z|z
  .rw[z];exact j b u e
  .exact j c _ z
def IsSub(k:Bool)(h:Heap)(a l:Addr)(i:Nat):Prop:=if k=true then h.IsListIter a l i else h.IsTupleIter a l i
def IsSeq(k:Bool)(h:Heap)(l:Addr)(a:B0):Prop:=if k=true then h.IsList l a else h.IsTuple l a
noncomputable def EY(k:Bool)(l:Addr):Obj:={cls:=.type (if k=true then "list_iterator" else "tuple_iterator"),data:=.fields #[.ref l,.int 0 0]}
def IsSub.mk'(e:h.get? it=some (EY k l)):IsSub k h it l 0:=by
 cases k with
 |true=>exact Z0 _ e rfl rfl
 |false=>exact Z0 _ e rfl rfl
def IsSub.there(x:IsSub k h it l i): ∃o,h.get? it=some o/\ ∀v,o.data≠.cell v:=by
 cases k with
 |true=>obtain⟨o,e,_,d⟩:=(x:h.IsListIter it l i);exact{o,e,λv z=>by rw[d]at z;cases z}
 |false=>obtain⟨o,e,_,d⟩:=(x:h.IsTupleIter it l i);exact{o,e,λv z=>by rw[d]at z;cases z}
def IsSub.move(x:IsSub k h it l i)(f: ∀o,h.get? it=some o->h'.get? it=some o):IsSub k h' it l i:=by
 cases k with
 |true=>refine(x:h.IsListIter it l i).a λo e r=>?_;exact Z3 o (f o e) r
 |false=>refine(x:h.IsTupleIter it l i).a λo e r=>?_;exact Z3 o (f o e) r
def IsSeq.move(x:IsSeq k h l its)(f: ∀o,h.get? l=some o->h'.get? l=some o):IsSeq k h' l its:=by
 cases k with
 |true=>refine(x:h.IsList l its).a λo e r=>?_;exact Z3 o (f o e) r
 |false=>refine(x:h.IsTuple l its).a λo e r=>?_;exact Z3 o (f o e) r
section
def vY(a:IsSeq k s.heap l its)(h:Q (.ref ↑0) {s with heap:=s.heap.push (EY k l)}):wpAny ↑6 A (pyIter (.ref l)) Q E s:=by
 cases k with
 |true=>exact ĭ a h
 |false=>exact wpAny_pyIter_tuple a h
def iY(b:IsSub k s.heap it l i)(u:IsSeq k s.heap l its)(q:its[i]? =some x)
  (hQ: ∀h',IsSub k h' it l (i+1)->Heap.SameBut it s.heap h'->Q x {s with heap:=h'}):wpAny ↑6 A (Builtin.SmallTypes.nextOf (.ref it)) Q E s:=by
 cases k with
 |true=>exact wpAny_nextOf_list_item b u q hQ
 |false=>
  have a:=b;refine(id a).c λo c v hd=>?_;obtain⟨y,m,_,B,j⟩:=(u:s.heap.IsTuple l its)
  refine wB (í a.typeIs Ķ (é Ķ a.typeIs F.entry_tuple_iterator_next ?_ (F.args_tuple_iterator_next_1 _)));show wpAny _ _ (field _ 0 >>= _) _ _ s;refine wB (ï c hd rfl ?_);refine wB (ï c hd rfl ?_);refine wB (Ė m j ?_);simp only[ą,q];refine wB (wpAny_setField c hd (by simp) (wP (Z3 x rfl (wP (hQ _ ?_ (Ę ..))))));exact Z0 _ (Heap.get?_update_self _ c (Obj.isFreed_of_fields (Obj.data_mapFields hd _))) ((Obj.cls_mapFields ..).trans v) (by rw[Obj.data_mapFields hd];simp[rawInt])
def GW(j:A.handled=none)(b:IsSub k s.heap it l i)(v:IsSeq k s.heap l its)(u:its[i]? =none)
  (hE: ∀h' e,Heap.ExtBut it s.heap h'->(∃o,h'.get? e=some o/\o.cls=.type "StopIteration")->E (.ref e) {s with heap:=h'}):wpAny ↑6 A (Builtin.SmallTypes.nextOf (.ref it)) Q E s:=by
 cases k with
 |true=>exact wpAny_nextOf_list_end j b v u hE
 |false=>
  have a:=b;refine(id a).c λo m B hd=>?_;obtain⟨y,q,_,C,c⟩:=(v:s.heap.IsTuple l its)
  refine wB (í a.typeIs Ķ (é Ķ a.typeIs F.entry_tuple_iterator_next ?_ (F.args_tuple_iterator_next_1 _)));show wpAny _ _ (field _ 0 >>= _) _ _ s;refine wB (ï m hd (x:=.ref l) rfl ?_);refine wB (ï m hd rfl ?_);refine wB (Ė q c ?_);simp only[ą,u];refine wB (Ě (wB (wpAny_setField m hd (by simp) ?_)));refine wB ?_;refine wB (Ā ?_ (by size_fits));refine wB (wpAny_of_eq (by first |rfl|(simp only[firstArgMember];rfl)) ?_);refine Ā ?_ (by size_fits);simp only[raiseNew];refine wB (wpAny_handled ?_)
  first |rw[show A.in1.handled=none from j]|rw[j]
  refine wB (wP (wpAny_throw ?_));exact hE _ _ (((Ę ..).extBut.push _).push _) (Z3 _ (á _ rfl) rfl)
end
structure ZipSt(k1 k2:Bool)(z TI TO i1 i2 l1 l2:Addr)(i:Nat)(h:Heap):Prop where
 z:IsZip h z TI TO .none
 ti:IsPair h TI (.ref i1) (.ref i2)
 to: ∃a b,IsPair h TO a b
 s1:IsSub k1 h i1 l1 i
 s2:IsSub k2 h i2 l2 i
structure Apart5(z TI TO i1 i2:Addr):Prop where
 TIz:TI≠z
 TOz:TO≠z
 i1z:i1≠z
 i2z:i2≠z
 TITO:TI≠TO
 TIi1:TI≠i1
 TIi2:TI≠i2
 TOi1:TO≠i1
 TOi2:TO≠i2
 i12:i1≠i2
section
variable{prog:Ŏ}{w:World}{A:Around}{s:Ō}{TI TO:Addr}
def Off(l z TO a b:Addr):Prop:=l≠z/\l≠TO/\l≠a/\l≠b
def ZA{Q:VP}(D:Apart5 z TI TO i1 i2)(o1:Off l1 z TO i1 i2)(o2:Off l2 z TO i1 i2)(st:ZipSt k1 k2 z TI TO i1 i2 l1 l2 i s.heap)(ag:IsSeq k1 s.heap l1 xs)(aa:IsSeq k2 s.heap l2 ys)(hx:xs[i]? =some x)(hy:ys[i]? =some y)
  (hQ: ∀h',IsZip h' z TI TO (rawInt ↑0)->IsPair h' TO x y->IsSub k1 h' i1 l1 (i+1)->IsSub k2 h' i2 l2 (i+1)->IsPair h' ↑0 x y->
   (∀c o,c≠z->c≠TO->c≠i1->c≠i2->s.heap.get? c=some o->h'.get? c=some o)->Q (.ref ↑0) {s with heap:=h'}):
  wpAny ↑6 A (Builtin.«zip.__next__» {[.ref z],[]}) (λfin s'=> ∃v,fin=.done (.ret v)/\Q v s') E s:=by
 obtain⟨S,ab,⟨a,b,Y⟩,h1,h2⟩:=st;show wpAny _ _ (field (.ref z) 2 >>= _) _ _ _;refine wB (ï S rfl rfl ?_);rw[20];refine wB (ï S rfl rfl (wB (Ė ab rfl ?_)));rw[20];refine wB ?_;unfold Builtin.SmallTypes.ownedTupleIsFree;refine wB (ï S rfl (x:=.none) rfl (wP ?_));simp only[if_true];refine wB (Ě (wB (ï S rfl rfl (wB (ö S (by simp) λha H j=>?_)))))
 replace H:IsZip ha z TI TO .ellipsis:=H
 refine wB ?_;simp only[List.zipIdx_cons,zipIdx_nil,forIn_cons,forIn_nil];refine wB (wB (wpAny_onRaise ?_));rw[20];refine wB (iY (h1.move λo e=>j.extBut _ _ D.i1z e) (ag.move λo e=>j.extBut _ _ o1.1 e) hx λhb Z u=>wP ?_);have N:IsPair hb TO a b:=u.extBut _ _ D.TOi1 (j.extBut _ _ D.TOz Y);refine wB (Ė N rfl (wB (wpAny_updateSeq_pair N λhc I C=>wB (wpAny_letGo (wP ?_)))))
 replace I:IsPair hc TO x b:=I
 refine wB (wB (wpAny_onRaise ?_));rw[20];have mv: ∀c o,c≠z->c≠TO->c≠i1->s.heap.get? c=some o->hc.get? c=some o:=λc o n1 W n3 e=>C.extBut _ _ W (u.extBut _ _ n3 (j.extBut _ _ n1 e));refine wB (iY (h2.move λo e=>mv _ o D.i2z D.TOi2.symm D.i12.symm e) (aa.move λo e=>mv _ o o2.1 o2.2.1 o2.2.2.1 e) hy λhd ae q=>wP ?_);have O:IsPair hd TO x b:=q.extBut _ _ D.TOi2 I;refine wB (Ė O rfl (wB (wpAny_updateSeq_pair O λJ F m=>wB (wpAny_letGo (wP (wP ?_))))))
 replace F:IsPair J TO x y:=F
 refine wB (Ė F rfl (wB (wpAny_newTuple ?_)));have K:J.objs.size=s.heap.objs.size:=by rw[m.1,q.1,C.1,u.1,j.1]
 have ze:IsZip J z TI TO .ellipsis:=m.extBut _ _ D.TOz.symm (q.extBut _ _ D.i2z.symm (C.extBut _ _ D.TOz.symm (u.extBut _ _ D.i1z.symm H)));have G:z<J.objs.size:=â ze;rw[20];refine wB ?_;unfold Builtin.SmallTypes.ownedTupleHandOut;refine wB (ö (hP0 _ ze) (by simp) λaf X M=>?_)
 replace X:IsZip af z TI TO _:=X
 refine ö X (by simp) λB U L=>?_
 replace U:IsZip B z TI TO _:=U
 have T: ∀c o,c≠z->J.get? c=some o->B.get? c=some o:=λc o P e=>L.extBut _ _ P (M.extBut _ _ P (hP0 _ e));have tT:IsPair B J.objs.size x y:=L.extBut _ _ (ø G) (M.extBut _ _ (ø G) (á _ rfl));rw[K]at U tT;refine wP {_,rfl,?_};show Q _ _;rw[K];exact hQ B U (T _ _ D.TOz F) ((Z.move λo e=>m.extBut _ _ D.TOi1.symm (q.extBut _ _ D.i12 (C.extBut _ _ D.TOi1.symm e))).move λo e=>T _ o D.i1z e) ((ae.move λo e=>m.extBut _ _ D.TOi2.symm e).move λo e=>T _ o D.i2z e) tT λc o P c2 c3 c4 e=>T c o P ((λc o n1 W n3 n4 e=>m.extBut _ _ W (q.extBut _ _ n4 (mv c o n1 W n3 e))) c o P c2 c3 c4 e)
def Fp(hh:A.handled=none)(D:Apart5 z TI TO i1 i2)(o1:Off l1 z TO i1 i2)(Z:Off l2 z TO i1 i2)(st:ZipSt k1 k2 z TI TO i1 i2 l1 l2 i s.heap)(M:IsSeq k1 s.heap l1 xs)(S:IsSeq k2 s.heap l2 ys)(B:xs[i]? =none\/ys[i]? =none)
  (hE: ∀h' e,(∀c o,c≠z->c≠TO->c≠i1->c≠i2->s.heap.get? c=some o->h'.get? c=some o)->(∃o,h'.get? e=some o/\o.cls=.type "StopIteration")->E (.ref e) {s with heap:=h'}):
  wpAny ↑6 A (Builtin.«zip.__next__» {[.ref z],[]}) Q E s:=by
 obtain⟨L,T,⟨a,b,O⟩,h1,h2⟩:=st;show wpAny _ _ (field _ 2 >>= _) _ _ _;refine wB (ï L rfl rfl ?_);rw[20];refine wB (ï L rfl rfl (wB (Ė T rfl ?_)));refine wB ?_;refine wB (ï L rfl rfl (wP ?_));refine wB (Ě (wB (ï L rfl rfl (wB (ö L (by simp) λha C j=>?_)))));refine wB ?_;refine wB (wB (wpAny_onRaise ?_))
 cases X:xs[i]? with
 |none=>
  refine wB (GW hh (h1.move λo e=>j.extBut _ _ D.i1z e) (M.move λo e=>j.extBut _ _ o1.1 e) X λhb e u P=>?_);obtain⟨oe,m,y⟩:=P;have J:=u _ _ D.i1z.symm C;exact ö J (by simp) λU _ v=>hE U e (λc o K _ N _ q=>v.extBut _ _ K (u _ _ N (j.extBut _ _ K q))) {oe,v.extBut _ _ (λq=>by cases q;rw[J]at m;cases m;simp at y) m,y}
 |some x=>
  refine wB (iY (h1.move λo e=>j.extBut _ _ D.i1z e) (M.move λo e=>j.extBut _ _ o1.1 e) X λhb aa u=>wP ?_);have I:=u.extBut _ _ D.TOi1 (j.extBut _ _ D.TOz O);refine wB (Ė I rfl (wB (wpAny_updateSeq_pair I λU ab v=>wB (wpAny_letGo (wP ?_)))));refine wB (wB (wpAny_onRaise ?_));have Y: ∀c o,c≠z->c≠TO->c≠i1->s.heap.get? c=some o->U.get? c=some o:=λc o n1 n2 n3 e=>v.extBut _ _ n2 (u.extBut _ _ n3 (j.extBut _ _ n1 e));refine wB (GW hh (h2.move λo e=>Y _ o D.i2z D.TOi2.symm D.i12.symm e) (S.move λo e=>Y _ o Z.1 Z.2.1 Z.2.2.1 e) (by rcases B with h|h;(rw[X]at h;cases h);exact h) λhd e H P=>?_);refine P.a λoe m y=>?_;have F:=H _ _ D.i2z.symm (v.extBut _ _ D.TOz.symm (u.extBut _ _ D.i1z.symm C));exact ö F (by simp) λW _ G=>hE W e (λc o K c2 N c4 q=>G.extBut _ _ K (H _ _ c4 (Y c o K c2 N q))) (Z3 oe (G.extBut _ _ (λq=>by cases q;rw[F]at m;cases m;simp at y) m) y)
def ZC(m:IsSeq k1 s.heap l1 xs)(j:IsSeq k2 s.heap l2 ys)
  (h: ∀h',ZipSt k1 k2 (↑0+4) (↑0+2) (↑0+3) ↑0 (↑0+1) l1 l2 0 h'->(∀c o,s.heap.get? c=some o->h'.get? c=some o)->Q (.ref (↑0+4)) {s with heap:=h'}):
  wpAny ↑6 A (call (.type "zip") [.ref l1,.ref l2]) Q E s:=by
 refine callType_new F.called_zip ↑15 (F.typeCall_zip_2 _ _) (F.newCall_zip_2 _ _) (λy=>F.args_object_init_3 y _ _) F.entry_zip_new ((show Meets (Builtin.«zip.__new__» {[.type "zip",.ref l1,.ref l2],[]}) (λ_ R s=>IsSeq k1 s.heap l1 xs/\IsSeq k2 s.heap l2 ys/\
   R (.ok (.ret (.ref (↑0+4)))) {s with heap:=((((s.heap.push (EY k1 l1)).push (EY k2 l2)).push {cls:=.type "tuple",data:=.seq #[.ref ↑0,.ref (↑0+1)]}).push {cls:=.type "tuple",data:=.seq #[.none,.none]}).push {cls:=.type "zip",data:=.fields #[.none,.bool false,.bool false,.ref (↑0+2),.ref (↑0+3)]}}) from .of_wp λprog w A R s h=>by
    obtain⟨C,g,d,G,D⟩:=s;refine h.f λm j h=>?_;have B:=sub_zip;have v:IsSeq k2 (Shared.heap {C.push (EY k1 l1),g,d,G,D}) l2 ys:=j.move λo e=>hP0 _ e;have b: ∀(h:Heap)(o:Obj),(h.push o).objs.size=h.objs.size+1:=λh o=>Ģ ..;simp only[b]at h ⊢
    wp_walk using vY m,vY v
    exact{_,rfl,by simp only[b];exact h})) {m,j,?_};have b: ∀(h:Heap)(o:Obj),(h.push o).objs.size=h.objs.size+1:=λh o=>Ģ ..;have q: ∀(h:Heap)(o:Obj)(n:Nat),o.isFreed=false->h.objs.size=n->(h.push o).get? n=some o:=λh o n H e=>by subst e;exact á _ H
 have a: ∀(h:Heap)(o u:Obj)(n:Nat),h.get? n=some u->(h.push o).get? n=some u:=λh o u n e=>hP0 _ e;refine{(Z3 _ (q _ _ _ rfl (by simp only[b])) rfl),h _ {q _ _ _ rfl (by simp only[b]),a _ _ _ _ (a _ _ _ _ (q _ _ _ rfl (by simp only[b]))),(Y6 .none .none (a _ _ _ _ (q _ _ _ rfl (by simp only[b])))),?_,?_} λc o e=>a _ _ _ _ (a _ _ _ _ (a _ _ _ _ (a _ _ _ _ (a _ _ _ _ e))))}
 .exact IsSub.mk' (a _ _ _ _ (a _ _ _ _ (a _ _ _ _ (a _ _ _ _ (q _ _ _ rfl rfl)))))
 .exact IsSub.mk' (a _ _ _ _ (a _ _ _ _ (a _ _ _ _ (q _ _ _ rfl (by simp only[b])))))
end
theorem apart_new(n:Nat):Apart5 (n+4) (n+2) (n+3) n (n+1):=by constructor<;>(show(_:Nat)≠_;lia)
def QT(k:Bool)(K:O0)(H:Hp)(a:Addr)(xs:List V):Prop:=if k=true then SqL K H a xs else SqT K H a xs
def Itz(K:O0)(j b:Bool)(a c:Addr):It:=
 {λi H=> ∃xs ys x y,QT j K H a xs/\QT b K H c ys/\xs[i]? =some x/\ys[i]? =some y,
   λi H v H'=> ∃p x y,H p=none/\v=.ref p/\H'=yP H p (.tup [x,y])/\(∀xs,QT j K H a xs->xs[i]? =some x)/\ ∀ys,QT b K H c ys->ys[i]? =some y,
   λi H=> ∃xs ys,QT j K H a xs/\QT b K H c ys/\(↑7<=i\/ys.length<=i)}
section
def _root_.L2.Inv.seqK(I:↑1)(h:QT k X.K H a xs): ∃j:List ō,Vals xs j/\IsSeq k s.heap a j.toArray/\↑7<=sizeLine:=by
 cases k with
 |true=>refine(I.list h).c λj r p z=>?_;exact Z0 j r p.isList z
 |false=>refine(I.tuple h).c λj r p z=>?_;exact Z0 j r p z
def _root_.L2.Inv.seqK_inj(I:↑1)(h:QT k X.K H a xs)(h':QT k X.K H a ys):xs=ys:=by
 cases k with
 |true=>exact I.list_inj h h'
 |false=>exact I.tuple_inj h h'
def oU(I:↑1)(h:QT k X.K H l xs)(a:rZ X pins H b):l≠b:=by
 rintro rfl
 have j: ∀o,X.K.lookup l=some o->False:=λo e=>by
  have c:=I.mod.kin l o e;rcases a.2.2.2.1 with z|z
  .exact I.ok.noex l o c z
  .exact absurd (ä (â c) (ó I.ok.bsz.1 z)) (Į _)
 cases k with
 |true=>
  rcases (h:SqL X.K H l xs)with(h|⟨o,h⟩)|⟨o,its,n,h,_⟩
  .rw[a.1]at h;cases h
  .rw[a.1]at h;cases h
  .exact j o h
 |false=>
  rcases (h:SqT X.K H l xs)with(h|⟨o,h⟩)|⟨o,its,n,h,_⟩
  .rw[a.1]at h;cases h
  .rw[a.1]at h;cases h
  .exact j o h
end
theorem Og{K:O0}{TI TO i1 i2 l1 l2:Addr}(D:Apart5 z TI TO i1 i2):
  Turn P w K (.Tuple elts kt pt) (Itz K k1 k2 l1 l2) [z,TI,TO,i1,i2] z (λi h=>ZipSt k1 k2 z TI TO i1 i2 l1 l2 i h) where
 mem:=by simp
 obj:=λi h st b hb=>by
  obtain⟨hz,hTI,⟨a,b',hTO⟩,h1,h2⟩:=st;rcases (by simpa using hb)with rfl|rfl|rfl|rfl|rfl
  .exact{_,hz,λv q=>by cases q}
  .exact{_,hTI,λv q=>by cases q}
  .exact{_,hTO,λv q=>by cases q}
  .exact h1.there
  .exact h2.there
 keep:=λi h h' st k=>by obtain⟨hz,hTI,⟨a,b',hTO⟩,h1,h2⟩:=st;exact{k z (by simp) _ hz,k TI (by simp) _ hTI,(Y6 a b' (k TO (by simp) _ hTO)),h1.move λo e=>k i1 (by simp) o e,h2.move λo e=>k i2 (by simp) o e}
 item:=by
  rw[21];subst hP hw hK;refine hg.j λxs ys x y j=>j.g λq1 q2 hx hy=>?_;refine(I.seqK q1).c λits r1 p1 _=>?_;refine(I.seqK q2).c λits2 r2 p2 _=>?_;refine(r1.get hx).a λu hu ru=>?_;refine(r2.get hy).a λv hv rv=>?_;have off: ∀{k:Bool}{l:Addr}{xs:List V},QT k X.K H l xs->Off l z TO i1 i2:=λq=>{oU I q (hf z (by simp)),oU I q (hf TO (by simp)),oU I q (hf i1 (by simp)),oU I q (hf i2 (by simp))}
  have hT:s.TypeIs (.ref z) "zip":={_,st.z,rfl}
  refine wB (ċ (í hT č (é č hT Ł
   (ZA D (off q1) (off q2) st p1 p2 (by simpa using hu) (by simpa using hv) λh' a1 a2 a3 a4 a5 a6=>wP (Z3 _ rfl ?_)) (ķ _))))
  refine wpAny_letOwnedTupleGo_zip a1 λh2 z2 sb2=>?_
  have I0:Inv X pins σ _ {s with heap:=s.heap.push {cls:=.type "tuple",data:=.seq #[u,v]}}:=
   I.laid (o:=.tup [x,y]) (λb o e=>hP0 _ e) (à _) {by show 2<=sizeLine;decide,[u,v],.cons ru (.cons rv .nil),{_,á _ rfl,rfl,_,rfl}}
  have lt: ∀b∈[z,TI,TO,i1,i2],b<s.heap.objs.size:=λb hb=>by
   have: ∃o,s.heap.get? b=some o:=by
    obtain⟨hz,hTI,⟨a,b',hTO⟩,g1,g2⟩:=st;rcases (by simpa using hb)with rfl|rfl|rfl|rfl|rfl
    .exact{_,hz}
    .exact{_,hTI}
    .exact{_,hTO}
    .obtain⟨o,e,_⟩:=g1.there;exact⟨o,e⟩
    .obtain⟨o,e,_⟩:=g2.there;exact⟨o,e⟩
   obtain⟨o,e⟩:=this;exact â e
  have fr: ∀b∈[z,TI,TO,i1,i2],yP H ↑0 (.tup [x,y]) b=none:=λb hb=>by rw[zH (å (lt b hb))];exact(hf b hb).1
  have zne:=ø (lt z (by simp))
  have mv: ∀b o,b∉[z,TI,TO,i1,i2]->(s.heap.push {cls:=.type "tuple",data:=.seq #[u,v]}).get? b=some o->h2.get? b=some o:=λb o hb e=>by
   simp only[mC,nM,or_false,not_or]at hb;refine sb2.extBut _ _ hb.1 ?_;by_cases hbs:b=↑0
   .subst hbs;rw[á _ rfl]at e;cases e;exact a5
   .rw[Heap.get?_push_ne _ _ _ hbs]at e;exact a6 b o hb.1 hb.2.2.1 hb.2.2.2.1 hb.2.2.2.2 e
  refine Ys (.ref ↑0) _ (I0.turnedL (t':=s.toks) mv λb hb=>let ⟨_,c2,c3,c4,c5,c6⟩:=hf b hb;{fr b hb,c2,c3,c4,c5,c6}) rfl (Y4 (↑0) x y (I.hok.fresh (à _)) rfl rfl (λzs hz=>?_) (λzs hz=>?_)) {z2,?_,(Y6 u v ?_),?_,?_} fr
  .rw[I.seqK_inj hz q1];exact hx
  .rw[I.seqK_inj hz q2];exact hy
  .exact sb2.extBut _ _ D.TIz (a6 TI _ D.TIz D.TITO D.TIi1 D.TIi2 st.ti)
  .exact sb2.extBut _ _ D.TOz a2
  .exact a3.move λo e=>sb2.extBut _ _ D.i1z e
  .exact a4.move λo e=>sb2.extBut _ _ D.i2z e
 done:=by
  rw[21];subst hP hw hK;refine hg.b λxs ys q1 q2 hx=>?_;refine(I.seqK q1).c λits r1 p1 _=>?_;refine(I.seqK q2).c λits2 r2 p2 _=>?_;have off: ∀{k:Bool}{l:Addr}{xs:List V},QT k X.K H l xs->Off l z TO i1 i2:=λq=>{oU I q (hf z (by simp)),oU I q (hf TO (by simp)),oU I q (hf i1 (by simp)),oU I q (hf i2 (by simp))}
  have hT:s.TypeIs (.ref z) "zip":=(Z3 _ st.z rfl)
  have e1:=r1.length;have e2:=r2.length
  refine wB (ċ (í hT č (é č hT Ł
   (Fp (I.ok.hd hc) D (off q1) (off q2) st p1 p2 (by rcases hx with h|h;(exact .inl (by simp;lia));exact .inr (by simp;lia)) λh' e hk he=>?_) (ķ _))))
  refine he.a λo ho hcl=>?_;refine wB (ĩ (Z3 o ho hcl) isSubtype_stop (wP {rfl,?_}));refine I.turnedL (λb o hb e=>?_) hf;simp only[mC,nM,or_false,not_or]at hb;exact hk b o hb.1 hb.2.2.1 hb.2.2.2.1 hb.2.2.2.2 e
 self:=λ_ _ _ _ _ st h=>wpAny_pyIter_zip st.z h
structure Sr where
 k:Bool
 ds:List MV
 gs:List (Nat×List MV)
noncomputable def srcOf(S:Sto):Er->Option Sr
 |.val (.tup ds)=>some {false,ds,[]}
 |.new ds=>some {true,ds,[]}
 |.val (.scr ds)=>some {true,ds,[]}
 |.val (.loc l)=>match S[l]? with
  |some (.lst ds)=>some {true,ds,[(l,ds)]}
  |_=>none
 |_=>none
structure SrcD(X:Cx)(q:Sr)(l:Addr)(P:List Addr->Sto->Hp->Prop):Prop where
 get: ∀α S H,P α S H-> ∃vs,QT q.k X.K H l vs/\DenL X.K α H q.ds vs
 stays: ∀α1 S1 H1 α2 S2 H2,P α1 S1 H1->Ext α1 H1 α2 H2->Wd X.g α2 S2 H2->stay q.gs S2->P α2 S2 H2
 st: ∀α S H,P α S H->stay q.gs S
def IX(G:Wd X.g α S H)(e:srcOf S r=some q)(d:DenX X.K α H r x): ∃l P,x=.ref l/\P α S H/\SrcD X q l P:=by
 unfold srcOf at e;split at e
 .rename_i o;cases e;refine(dO d).b λa vs k s l=>?_;subst k;exact{a,λα S H=> ∃vs,_,rfl,⟨vs,s,l⟩,λα S H h=>h,λu B y m C A ⟨vs,j,c⟩ x w _=>(Z3 vs (x.sqT j) (c.ext x)),λ_ _ _ _=>kN}
 .rename_i o;cases e;refine d.l λb vs T h n l=>?_;subst T
  exact{b,λα S H=> ∃vs,H b=some (.lst vs)/\b∉α/\DenL X.K α H o vs,rfl,(Z0 vs h n l),λα S H ⟨vs,j,_,c⟩=>(Z3 vs (SqL.of j:SqL X.K H b vs) c),
   λu B y m C A ⟨vs,j,c,N⟩ x w _=>(Z0 vs (x.keep b _ j c) (x.out j c) (N.ext x)),λ_ _ _ _=>kN}
 .rename_i o;cases e;refine(NW d).b λa vs U s l=>?_;subst U;exact{a,λα S H=> ∃vs,SqF X.K H a vs/\DenL X.K α H o vs,rfl,(Z3 vs s l),λα S H ⟨vs,j,c⟩=>(Z3 vs j.l c),λu B y m C A ⟨vs,j,c⟩ x w _=>(Z3 vs (x.sqF j) (c.ext x)),λ_ _ _ _=>kN}
 .rename_i n;split at e
  .rename_i o D;cases e;refine(bV d).a λa V h=>?_;subst V;refine(G.obj n a _ h D).a λvs j c=>?_;refine{a,λα S H=> ∃vs,H a=some (.lst vs)/\DenL X.K α H o vs/\α[n]? =some a/\S[n]? =some _,rfl,⟨vs,j,c,h,D⟩,λα S H ⟨vs,j,c,_⟩=>(Z3 vs (SqL.of j:SqL X.K H a vs) c),?_,?_}
   .intro u B y m C A ⟨vs,O,Q,E,F⟩ x w hs;have v:=hs (n,o) (by simp);refine(w.obj n a _ (x.at E) v).a λL M I=>?_;exact{L,M,I,x.at E,v}
   .intro α S H ⟨vs,_,_,_,F⟩ p J;have:=by simpa using J
    subst this;exact F
  .cases e
 .cases e
def iZip(K:O0)(o:TA):TI:=λσ H R=>o σ H λvs c=> ∃j m a b,vs=[.ref a,.ref b]/\(∃xs,QT j K c a xs)/\(∃ys,QT m K c b ys)/\R (Itz K j m a b) c
section
variable{a b:Expr}{elts:N0}{kt:Nat}{pt p pos:Pos}
def Oh:bootBuiltins "zip"=some (.type "zip"):=by decide+kernel
def R8(A:Gl X "zip")(D:X.mg "zip"=none)(G:PA X [a,b] ta)(hs:starEach [a,b] X.env=[(false,eval a X.env),(false,eval b X.env)]:=by rfl)(j:starEach [b] X.env=[(false,eval b X.env)]:=by rfl):
  PI X (.Tuple elts kt pt) (.Call (.Name "zip" p) [a,b] [] pos) (iZip X.K ta):=by
 intro pins s σ H R I h;refine Call_ (pT I A D Oh (ĉ (xV (G pos pins s σ H _ I h) λQ u ⟨vs,w,I1,E,o⟩=>?_) (by exact qq hs (qq j rfl)) (by rw[j];rfl)));refine o.j λN P O M k=>k.g λT U V q=>?_;subst T;obtain ⟨xs,F⟩:=U;obtain ⟨ys,C⟩:=V
 cases E with
 |cons r rr=>
  cases rr with
  |cons r' rr=>
   cases rr;subst r;subst r';refine(I1.seqK F).c λy L p1 _=>?_;refine(I1.seqK C).c λm J p2 _=>?_;refine ZC p1 p2 λh' st B=>wpAny_pyIter_zip st.z ?_;refine Yq _ _ _ _ w rfl (I1.kept B) (Og (apart_new _)) st (λb v=>?_) q;have c:u.heap.objs.size<=b:=by rcases (by simpa using v)with h|h|h|h|h<;>refine qq h ?_<;>(first |exact à _|exact Ğ _ _)
   exact I1.fpOk c (I1.hok.fresh c)
noncomputable def pairs(xs ys:Q0):List MV:=List.zipWith (λx y=>.tup [x,y]) xs ys
def A6(rs:List Er)(S:Sto):R Wk:=match rs with
 |[p,q]=>match srcOf S p with
  |some a=>match srcOf S q with
   |some b=>.ok {pairs a.ds b.ds,a.gs++b.gs} S
   |none=>.no
  |none=>.no
 |_=>.no
theorem R9(hg:Gl X "zip")(hm:X.mg "zip"=none)(N:KQ X W [a,b] af)(hs:starEach [a,b] X.env=[(false,eval a X.env),(false,eval b X.env)]:=by rfl)(L:starEach [b] X.env=[(false,eval b X.env)]:=by rfl):
  NZ X W (.Tuple elts kt pt) (.Call (.Name "zip" p) [a,b] [] pos) (λρ S=>(af ρ S).bind A6):=by
 refine N.a λt N k=>?_;refine Z3 _ (R8 hg hm N hs L) (λα ρ S σ H Rc wd sl q=>k α ρ S σ H _ wd sl (q.bind λvs rs S1 G H1 e x1 M d1 c=>?_))
 replace c:=c.shift x1
 unfold A6 at c;split at c
 .rename_i r1 r2;split at c
  .rename_i Q e1;split at c
   .rename_i P e2;refine(A3 d1).b λu v V du dv=>?_;subst V;refine(IX M e1 du).b λl1 P1 ac p1 s=>?_;subst ac;refine(IX M e2 dv).b λl2 P2 am p2 A=>?_;subst am;refine ZB Q.k P.k l1 l2 {rfl,{_,(s.get _ _ _ p1).choose_spec.1},{_,(A.get _ _ _ p2).choose_spec.1},c.here M {λα S H=>P1 α S H/\P2 α S H,?_,⟨p1,p2⟩,?_,?_}}
    .intro i F S2 H2 ⟨D,C⟩ U;refine(s.get _ _ _ D).a λm J O=>?_;refine(A.get _ _ _ C).a λy E Z=>?_;have hl:(pairs Q.ds P.ds).length=min m.length y.length:=by unfold pairs;rw[List.length_zipWith,O.length,Z.length]
     refine{λhi=>?_,λhi=>?_}
     .have hi:=hi;have K:i<m.length:=by lia
      have h2:i<y.length:=by lia
      refine{(ZB m y (m[i]) (y[i]) {J,E,gE K,gE h2}),?_};rintro x H' ⟨pp,Y,T,j,rfl,rfl,hx,hy⟩;refine(O.get (hx m J)).a λd hd dd=>?_;refine(Z.get (hy y E)).a λf hf df=>?_;have B:=U.newx (o:=.tup [Y,T]) j;have I:=U.new (o:=.tup [Y,T]) j;refine{B,I,{s.stays _ _ _ _ _ _ D B I (s.st _ _ _ D),A.stays _ _ _ _ _ _ C B I (A.st _ _ _ C)},.tup [d,f],?_,?_}
      .unfold pairs;rw[List.getElem?_zipWith,hd,hf]
      .exact nP (.of zM) (zT (dd.ext B) (zT (df.ext B) yA))
     .have hi:=hi;refine Z2 m y J E ?_;by_cases K:m.length<=i
      .exact .inl K
      .exact .inr #[0]
    .intro G S1 H1 F S2 H2 ⟨D,C⟩ x w hs;exact{s.stays _ _ _ _ _ _ D x w λp j=>hs p (ę _ j),A.stays _ _ _ _ _ _ C x w λp j=>hs p (û _ j)}
    .intro p j;rcases ì.mp j with h|h
     .exact s.st _ _ _ p1 p h
     .exact A.st _ _ _ p2 p h
   .exact c.elim
  .exact c.elim
 .exact c.elim
end
structure EnSt(k:Bool)(e it l:Addr)(i:Nat)(h:Heap):Prop where
 e: ∃old,IsEnum h e it i old
 s:IsSub k h it l i
section
variable{prog:Ŏ}{w:World}{A:Around}{i:Nat}
def Vn{Q:VP}(K:IsEnum s.heap e it i old)(M:IsSub k s.heap it l i)(hl:IsSeq k s.heap l its)(hx:its[i]? =some x)(a:e≠it)
  (hQ: ∀h',IsEnumOut h' e it ( i +1) x ↑0->IsSub k h' it l (i+1)->h'.get? ↑0=some {cls:=.type "tuple",data:=.seq #[.int i s.toks,x]}->
   (∀b o,b≠e->b≠it->s.heap.get? b=some o->h'.get? b=some o)->Q (.ref ↑0) {s with heap:=h',toks:=s.toks+1}):
  wpAny ↑6 A (Builtin.«enumerate.__next__» {[.ref e],[]}) (λT s'=> ∃v,T=.done (.ret v)/\Q v s') E s:=by
 obtain⟨F,g,d,u,os⟩:=s;show wpAny _ _ (field _ 2 >>= _) _ _ _;refine wB (ï K rfl rfl (wB (iY M hl hx λha Z c=>?_)));have X:=(c.2 e a).trans K;refine wB (ï X rfl rfl ?_);refine wB (ï X rfl rfl ?_);show wpAny _ _ _ _ _ ⟨ha,g,d,u,os⟩;refine wB (wpAny_mkInt ?_);refine wB (ö X (by simp) λhb H j=>?_)
 replace H:IsEnum hb e it _ old:=H
 refine wB (ö H (by simp) λy W m=>?_)
 replace W:IsEnum y e it _ old:=W
 refine wB (wpAny_newTuple ?_);have B:y.objs.size=F.objs.size:=by rw[m.1,j.1,c.1]
 have G:IsEnum (y.push {cls:=.type "tuple",data:=.seq #[.int i u,x]}) e it _ old:=hP0 _ W;have td:(y.push {cls:=.type "tuple",data:=.seq #[.int i u,x]}).get? F.objs.size=some {cls:=.type "tuple",data:=.seq #[.int i u,x]}:=by rw[<-B];exact á _ rfl
 have kd: ∀b o,b≠e->b≠it->F.get? b=some o->(y.push {cls:=.type "tuple",data:=.seq #[.int i u,x]}).get? b=some o:=λb o D U q=>
  hP0 _ (m.extBut b o D (j.extBut b o D (c.extBut b o U q)))
 have sd:IsSub k (y.push {cls:=.type "tuple",data:=.seq #[.int i u,x]}) it l _:=Z.move λo q=>hP0 _ (m.extBut _ o (Ne.symm a) (j.extBut _ o (Ne.symm a) q));generalize y.push {cls:=.type "tuple",data:=.seq #[.int i u,x]}=hd at G td kd sd ⊢;rw[B];refine wB ?_;refine wB (ï G rfl rfl (wP ?_));refine wB (Ě (wB (ï G rfl rfl (wB (ö G (by simp) λhf J I=>?_)))))
 replace J:IsEnum hf e it _ x:=J
 refine wB ?_;refine wB (ö J (by simp) λS Y O=>?_)
 replace Y:IsEnumOut S e it _ x F.objs.size:=Y
 refine ö Y (by simp) λC P L=>?_
 replace P:IsEnumOut C e it _ x F.objs.size:=P
 have N:=λb o n q=>L.extBut b o n (O.extBut b o n (I.extBut b o n q));exact wB (wpAny_letGo (wP {_,rfl,hQ C P (sd.move λo q=>N _ o (Ne.symm a) q) (N _ _ (ø (â K)) td) λb o D U q=>N b o D (kd b o D U q)}))
end
def SU(K:O0)(F:↑13):Sp:=λvs H Q _=> ∃a,DenL K [] H a vs/\a.length=1/\ ∀g:Gm,g.K=K->Post g W0 [] H (F a []) Q
def Oi: ∀vs H Q E,SU g.K F vs H Q E->KR g 1 F vs H Q E:=λvs H Q E ⟨b,l,c,q⟩=>(Ze ([]) ([]) b {rfl,by simp,λl a o h=>by simp at h} l c (q g rfl))
def S7{K:O0}(b:To H)(h:SqL K H a xs):SqF K H a xs:=by
 rcases h with(h|⟨o,h⟩)|h
 .rcases b a with z|⟨o,ys,z⟩|⟨ps,z⟩<;>(rw[z]at h;cases h)
 .exact .inl ⟨o,h⟩
 .exact .inr h
theorem jO(b)(S)(k:β->Sto->R γ):(R.ok b S).bind k=k b S:=by exact Eq.trans (R.bind_ok b S k) rfl
theorem Vo(d)(S):Uc (some (some d)) S=.ok (.val d) S:=rfl
theorem rK:YW S (S++T):={by rw[lA];lia,λl a=>.inl (ã a)}
def vZ(n)(i):lo n (.int i):=by unfold lo;trivial
def OJ(n)(i):lo n (.str i):=by unfold lo;trivial
def ZD(n)(i):lo n (.bl i):=by unfold lo;trivial
def IY(n):lo n .non:=by unfold lo;trivial
def iZ(h:vO n ds):lo n (.tup ds):=by unfold lo;exact h
theorem xO: ∀{ds},(∀d∈ds,lo n d)->vO n ds
 |[],_=>by unfold vO;trivial
 |d::ds,h=>by unfold vO;exact{h d mF0,xO λe j=>h e (mO _ j)}
def xX(b:↑4=n)(a:F (zK rs S).1 (zK rs S).2=.ok (.val d) (S++T))(h:lo ↑2 d)(hd: ∀l,d≠.loc l):zC n F rs S=.ok (.val d) S:=by unfold zC;refine qq (iP b) (qq a ?_);exact (show hX S (.val d) (S++T)=.ok (.val d) S by
  unfold hX;rw[iP rK];have e:(S++T).take ↑2=S:=by simp
  cases d with
  |loc l=>exact absurd rfl (hd l)
  |_=>dsimp only;exact qq (iP h) (qq e rfl))
def gG(a:↑4=n)(b:F (zK rs S).1 (zK rs S).2=.ok (.new ds) (S++T))(h:vO ↑2 ds):zC n F rs S=.ok (.new ds) S:=by unfold zC;rw[iP a,b];exact (show hX S (.new ds) (S++T)=.ok (.new ds) S by
  unfold hX;rw[iP rK];have e:(S++T).take ↑2=S:=by simp
  dsimp only;rw[iP h,e])
def ZE(c:↑4=n)(a:F (zK rs S).1 (zK rs S).2=.ok (.val (.loc l)) (S++T))(j:↑2<=l)(b:(S++T)[l]? =some (.lst ds))(h:vO ↑2 ds):zC n F rs S=.ok (.new ds) S:=by unfold zC;rw[iP c,a];exact (show hX S (.val (.loc l)) (S++T)=.ok (.new ds) S by
  unfold hX;rw[iP rK];have e:(S++T).take ↑2=S:=by simp
  dsimp only;rw[iN #[0],b];dsimp only;rw[iP h,e])
def yT(b:↑4=n)(a:F (zK rs S).1 (zK rs S).2=.ok (.val d) S)(h:lo ↑2 d)(hd: ∀l,d≠.loc l):zC n F rs S=.ok (.val d) S:=xX b (by rw[aN];exact a) h hd
theorem ZF{L:Q0}(I:Nat->Rho->Sto->Prop)
  (st: ∀i d,L[i]? =some d-> ∀ρ S,I i ρ S-> ∃ρ' S',((gf d ρ S).bind λj m=>body j m)=.ok (.next ρ') S'/\stay gs S'/\I (i+1) ρ' S'):
  ∀ n i {ρ}{S},n+i=L.length->I i ρ S-> ∃ρ' S',wO gf body gs (L.drop i) ρ S=.ok (.next ρ') S'/\I L.length ρ' S'
 |0,i,ρ,S,hn,h=>by
  have e:i=L.length:=by lia
  subst e;rw[drop_length];exact ZX (ρ) S rfl h
 |n+1,i,ρ,S,hn,h=>by
  have hi:i<L.length:=by lia
  refine(st i L[i] (gE hi) ρ S h).b λo v e hs q=>?_;refine(ZF I st n _ #[0] q).d λa u b s=>?_;refine ZX a u ?_ s;rw[ĕ hi];unfold wO
  cases z:gf L[i] ρ S with
  |ok j m=>
   rw[z]at e;have e:body j m=.ok _ v:=e;show(body j m).bind _=_;rw[e,jO];dsimp only;rw[iP hs];exact b
  |exc c fs m=>rw[z]at e;cases e
  |no=>rw[z]at e;cases e
theorem VL(I:Nat->Rho->Sto->Prop)
  (st: ∀i d,L[i]? =some d-> ∀ρ S,I i ρ S-> ∃ρ' S',((gf d ρ S).bind λj m=>body j m)=.ok (.next ρ') S'/\stay gs S'/\I (i+1) ρ' S')   (h:I 0 ρ S):
  ∃ρ' S',wO gf body gs L ρ S=.ok (.next ρ') S'/\I L.length ρ' S':=ZF I st L.length 0 #[0] h
section
theorem zDJ(b)(S):jM (.val (.bl b)) S=.ok b S:=rfl
theorem as_int(i)(S):Sb (.val (.int i)) S=.ok (some i) S:=rfl
theorem S8(b)(S):sH (.val (.bl b)) S=.ok b S:=rfl
theorem add_int(i j)(S):kL (.val (.int i)) (.val (.int j)) S=.ok (.val (.int (i+j))) S:=rfl
theorem sub_int(i j)(S):Cp (.val (.int i)) (.val (.int j)) S=.ok (.val (.int (i - j))) S:=rfl
def add_str(h:x.length+y.length<=sizeLine):kL (.val (.str x)) (.val (.str y)) S=.ok (.val (.str (x++y))) S:=iP h
def VM(a:Nt S p=some x)(b:Nt S q=some y)(h:x.length+y.length<=sizeLine):kL p q S=.ok (.new (x++y)) S:=by
 have e:Fk p q S=.ok (.new (x++y)) S:=by unfold Fk;rw[a,b];exact iP h
 unfold kL;split
 .cases a
 .cases a
 .cases a
 .exact e
theorem S9(i j)(S):zFW g (.val (.int i)) (.val (.int j)) S=.ok (.val (.bl (g i j))) S:=rfl
def Vq(i j):Tl (.int i) (.int j)=decide (i=j):=by
 show(i==j)=_;by_cases h:i=j
 .subst h;simp
 .rw[dF0 h];simpa using h
def Vr(x y):Tl (.str (pU x)) (.str (pU y))=decide (x=y):=by
 show(pU x==pU y)=_;by_cases h:x=y
 .subst h;simp
 .rw[dF0 h];have:=λz=>h (MD z);simpa using this
theorem MH(n)(i j):eqv S (n+1) (.int i) (.int j)=some (decide (i=j)):=by rw[<-Vq];rfl
theorem GX(n)(x y):eqv S (n+1) (.str x) (.str y)=some (decide (x=y)):=by rw[<-Vr];rfl
theorem T3(n)(x)(y):eqv S (n+1) (.int x) (.str y)=some false:=rfl
theorem T6(n)(x)(y):eqv S (n+1) (.str x) (.int y)=some false:=rfl
theorem Vs(d f):vK (.val d) (.val f) S=match eqv S (zO+1) d f with |some k=>.ok (.val (.bl k)) S|none=>.no:=rfl
theorem Vt(d f):MG (.val d) (.val f) S=match eqv S (zO+1) d f with |some k=>.ok (.val (.bl !k)) S|none=>.no:=rfl
def OL(h:eqv S (zO+1) d f=some k):vK (.val d) (.val f) S=.ok (.val (.bl k)) S:=by rw[Vs,h]
def Oo(h:eqv S (zO+1) d f=some k):MG (.val d) (.val f) S=.ok (.val (.bl !k)) S:=by rw[Vt,h]
def eq_int(i j)(S):vK (.val (.int i)) (.val (.int j)) S=.ok (.val (.bl (decide (i=j)))) S:=OL (MH _ i j)
def eq_str(x y)(S):vK (.val (.str x)) (.val (.str y)) S=.ok (.val (.bl (decide (x=y)))) S:=OL (GX _ x y)
def ne_int(i j)(S):MG (.val (.int i)) (.val (.int j)) S=.ok (.val (.bl (!decide (i=j)))) S:=Oo (MH _ i j)
theorem lt_int(i j)(S):Q1 (.val (.int i)) (.val (.int j)) S=.ok (.val (.bl (decide (i<j)))) S:=rfl
theorem lt_str(i j)(S):Q1 (.val (.str i)) (.val (.str j)) S=.ok (.val (.bl (decide (i<j)))) S:=rfl
theorem VN(h:0<b)(j:b<1073741824)(a)(S):YY (.val (.int a)) (.val (.int b)) S=.ok (.val (.int (a / b))) S:=by
 refine iP {h,?_};have c:b.natAbs<2 ^ 30:=by omega
 have:=(Nat.log2_lt (by omega:b.natAbs≠0)).mpr c
 lia
def mod_lit(h:0<b)(a)(S):RD (.val (.int a)) (.val (.int b)) S=.ok (.val (.int (a % b))) S:=iP h
def MK(h: -(2 ^ 64)<b/\b<2 ^ 64)(a)(S):EX (.val (.int a)) (.val (.int b)) S=.ok (.val (.int (a * b))) S:=iP (Or.inr (Or.inl h))
def ZG(h: -(2 ^ 64)<a/\a<2 ^ 64)(b)(S):EX (.val (.int a)) (.val (.int b)) S=.ok (.val (.int (a * b))) S:=iP (Or.inl h)
theorem Vu(ρ)(i)(d)(S):NY ρ i (.val d) S=.ok (.next (ρ.set i (some d))) S:=rfl
theorem Vv(ρ)(i)(ds)(S):NY ρ i (.new ds) S=.ok (.next (ρ.set i (some (.loc ↑2)))) (S++[.lst ds]):=rfl
theorem Vx(S):zK [] S=([],S):=rfl
theorem Vy(d)(rs)(S):zK (.val d::rs) S=(d::(zK rs S).1,(zK rs S).2):=rfl
theorem yI(h:F ρ S=.ok (.next ρ') S'):zD F G ρ S=G ρ' S':=by unfold zD;rw[h];rfl
theorem jP(h:F ρ S=.ok (.ret r) S'):zD F G ρ S=.ok (.ret r) S':=by unfold zD;rw[h];rfl
def yU(S):stay [] S:=kN
def yC(a:gf d ρ S=.ok ρ0 S0)(h:b ρ0 S0=.ok (.next ρ') S')(hs:stay gs S'):wO gf b gs (d::ds) ρ S=wO gf b gs ds ρ' S':=by
 conv=>lhs;unfold wO
 rw[a,jO,h,jO];dsimp only;rw[iP hs]
def ML(a:gf d ρ S=.ok ρ0 S0)(h:b ρ0 S0=.ok (.ret r) S'):wO gf b gs (d::ds) ρ S=.ok (.ret r) S':=by
 conv=>lhs;unfold wO
 rw[a,jO,h,jO]
def Jg(a:t ρ S=.ok false S1):EU t b (n+1) ρ S=.ok (.next ρ) S1:=by
 conv=>lhs;unfold EU
 rw[a,jO,iN xF0]
theorem VO(a:0<=i)(b:i<↑7): ∃c,DV xs i=some c:=by refine{xs[i.toNat]'#[0],?_};unfold DV QR;rw[iP a,iP b];exact gE _
def Fq{P:α->Prop}(h: ∀e∈xs,P e)(z:DV xs i=some e):P e:=by
 unfold DV at z
 cases q:QR ↑7 i with
 |none=>rw[q]at z;cases z
 |some j=>rw[q]at z;exact h e (ò z)
def ix_str(h:x.length<=sizeLine)(a:DV x i=some c):yE (.val (.str x)) (.val (.int i)) S=.ok (.val (.str [c])) S:=by show(if x.length<=sizeLine then match DV x i with |some c=>R.ok _ S|none=>.no else .no)=_;rw[iP h,a]
def ix_tup(a:DV ds i=some d):yE (.val (.tup ds)) (.val (.int i)) S=.ok (.val d) S:=by show(match DV ds i with |some d=>R.ok _ S|none=>.no)=_;rw[a]
def U3(a:DV ds i=some d):yE (.new ds) (.val (.int i)) S=.ok (.val d) S:=by show(match DV ds i with |some d=>R.ok _ S|none=>.no)=_;rw[a]
def IZ(a:S[l]? =some (.lst ds))(b:DV ds i=some d):yE (.val (.loc l)) (.val (.int i)) S=.ok (.val d) S:=by
 have e:xQ S (.val (.loc l))=some ds:=by unfold xQ;dsimp only;rw[a]
 show(match xQ S _ with |some ds=>getL ds _ S|none=>.no)=_;rw[e];show(match DV ds i with |some d=>R.ok _ S|none=>.no)=_;rw[b]
def wF(b:S[l]? =some (.lst ds)):dQ [.val (.loc l)] S=.ok (.val (.int ↑11)) S:=by
 have a:itemsOf S (.val (.loc l))=some ds:=by unfold itemsOf;exact(by unfold xQ;dsimp only;rw[b])
 show(match itemsOf S _ with |some ds=>R.ok _ S|none=>.no)=_;rw[a]
def lB(a:S[l]? =some (.lst ds)):xQ S (.val (.loc l))=some ds:=by unfold xQ;dsimp only;rw[a]
def VR(a:S[l]? =some (.lst ds)):Nt S (.val (.loc l))=some ds:=by unfold Nt;dsimp only;rw[a]
def yV(a:S[l]? =some (.lst ds)):vI (.val (.loc l)) S=.ok {ds,[(l,ds)]} S:=by unfold vI;dsimp only;rw[a]
def yG(b:S[l]? =some (.lst ds)):stay [(l,ds)] S:=λp a=>by
 have:=by simpa using a
 subst this;exact b
def EZ(h: -(2 ^ 62)<=j/\j<2 ^ 62):iW [.val (.int j)] S=.ok {(List.range j.toNat).map λk=>.int (k:Nat),[]} S:=iP h
def cut_str(h:x.length<=sizeLine)(lo hi):DP (.val (.str x)) lo hi S=.ok (.val (.str (dM x lo hi))) S:=iP h
def Oq(f:α->β)(x)(lo hi):dM (x.map f) lo hi=(dM x lo hi).map f:=by unfold dM;rw[lM,map_take,map_drop]
def Vz(x:List α)(k)(j:0<=k):dM x none (some k)=x.take k.toNat:=by
 unfold dM;have a:HT.sIx x.length 0 none=0:=rfl;refine qq a ?_;have b:HT.sIx x.length x.length (some k)=min k.toNat x.length:=by unfold HT.sIx;simp only;split<;>lia
 rw[b,drop_zero,Nat.sub_zero];by_cases c:k.toNat<=x.length
 .rw[min_eq_left c]
 .rw[min_eq_right (by lia),take_length,ĥ (by lia)]
def fits(h:n<=1000000):n<=sizeLine:=by rw[ý];exact ó h ↑15
def AA(h:↑4<=1000000):xN rs S=.ok (.new (zK rs S).1) (zK rs S).2:=iP (fits h)
def FA(h:↑4<=1000000):yH rs S=.ok (.val (.tup (zK rs S).1)) (zK rs S).2:=iP (fits h)
def RH(S):xN [] S=.ok (.new []) S:=AA (by simp)
def lst1(a)(S):xN [.val a] S=.ok (.new [a]) S:=AA (by simp)
def Wa(a b)(S):xN [.val a,.val b] S=.ok (.new [a,b]) S:=AA (by simp)
def zDK(a b c)(S):xN [.val a,.val b,.val c] S=.ok (.new [a,b,c]) S:=AA (by simp)
def lst6(a b c d e f)(S):xN [.val a,.val b,.val c,.val d,.val e,.val f] S=.ok (.new [a,b,c,d,e,f]) S:=AA (by simp)
def tup2(a b)(S):yH [.val a,.val b] S=.ok (.val (.tup [a,b])) S:=FA (by simp)
def Wb(a b c)(S):yH [.val a,.val b,.val c] S=.ok (.val (.tup [a,b,c])) S:=FA (by simp)
theorem U4(i)(S):VI [.val (.int i),.val (.typ "str")] S=.ok (.val (.bl false)) S:=rfl
theorem U5(i)(S):VI [.val (.str i),.val (.typ "str")] S=.ok (.val (.bl true)) S:=rfl
theorem U6(i)(S):VI [.val (.int i),.val (.typ "tuple")] S=.ok (.val (.bl false)) S:=rfl
theorem U7(i)(S):VI [.val (.str i),.val (.typ "tuple")] S=.ok (.val (.bl false)) S:=rfl
theorem U8(i)(S):VI [.val (.tup i),.val (.typ "tuple")] S=.ok (.val (.bl true)) S:=rfl
theorem U9(i)(S):VI [.val (.bl i),.val (.typ "bool")] S=.ok (.val (.bl true)) S:=rfl
theorem ZH(hs:stay gs S):
  ∀{ds},(∀d∈ds, ∃j,gf d ρb S=.ok j S/\cf j S=.ok true S/\ef j S=.ok (.val (F d)) S)->zV gf cf ef ρb gs ds S=.ok (ds.map F) S
 |[],_=>rfl
 |d::ds,st=>by refine(st d mF0).c λj q u m=>?_;unfold zV;rw[q,yN,jO,u,yN,jO,iP rfl,m,yN,jO];unfold kM;rw[jO,iP hs,(ZH hs (ds:=ds) λd hd=>st d (mO _ hd))];rfl
theorem CL(hs:stay gs S):
  ∀{ds},(∀d∈ds, ∃j,gf d ρb S=.ok j S/\cf j S=.ok false S)->zV gf cf ef ρb gs ds S=.ok [] S
 |[],_=>rfl
 |d::ds,st=>by refine(st d mF0).a λj m q=>?_;have e:=CL hs (ef:=ef) λd hd=>st d (mO _ hd);unfold zV;rw[m,yN,jO,q,yN,jO,iN xF0,iP hs,e]
def Nm(x:Db):Prop:=1<=x.length/\x.length<=8/\ ∀c∈x,97<=c/\c<=122
def Vl:MV->Prop
 |.int i=> -(10 ^ 30)<i/\i<10 ^ 30
 |.str x=>Nm x
 |_=>False
def Vl.cases(h:Vl d):(∃i,d=.int i/\ -(10 ^ 30)<i/\i<10 ^ 30)\/ ∃x,d=.str x/\Nm x:=by
 cases d with
 |int i=>exact .inl ⟨i,rfl,h⟩
 |str x=>exact .inr ⟨x,rfl,h⟩
 |_=>exact h.elim
end
def Ite(K:O0)(k:Bool)(l:Addr):It:=
 {λi H=> ∃xs x,QT k K H l xs/\xs[i]? =some x,
   λi H v H'=> ∃p x,H p=none/\v=.ref p/\H'=yP H p (.tup [.int (i:Nat),x])/\(∀xs,QT k K H l xs->xs[i]? =some x),
   λi H=> ∃xs,QT k K H l xs/\↑7<=i}
section
variable{s:Ō}
def Jh(q:IsSeq k s.heap l its)
  (h: ∀h',EnSt k (↑0+1) ↑0 l 0 h'->(∀c o,s.heap.get? c=some o->h'.get? c=some o)->Q (.ref (↑0+1)) {s with heap:=h'}):
  wpAny ↑6 A (call (.type "enumerate") [.ref l]) Q E s:=by
 refine callType_new F.called_enumerate ↑15 (F.typeCall_enumerate_1 _) (F.newCall_enumerate_1 _) (λa=>F.args_object_init_2 a _) F.entry_enumerate_new ((show Meets (Builtin.«enumerate.__new__» {[.type "enumerate",.ref l],[]}) (λ_ R s=>IsSeq k s.heap l its/\
   R (.ok (.ret (.ref (↑0+1)))) {s with heap:=(s.heap.push (EY k l)).push {cls:=.type "enumerate",data:=.fields #[.none,.bool false,.ref ↑0,rawInt 0,.none,.none]}}) from .of_wp λprog w A R s h=>by
    obtain⟨B,g,d,C,y⟩:=s;obtain⟨q,h⟩:=h;have u:=sub_enumerate;have m:=q;have j: ∀(h:Heap)(o:Obj),(h.push o).objs.size=h.objs.size+1:=λh o=>Ģ ..
    wp_walk
    refine wpAny_stack_any λst=>wP ?_;split
    .rename_i c _ _ _ _ _;cases (c==Value.type "enumerate")
     .wp_walk using vY m
      exact{_,rfl,by simp only[j];exact h}
     .wp_walk using vY m
      exact{_,rfl,by simp only[j];exact h}
    .wp_walk using vY m
     exact{_,rfl,by simp only[j];exact h})) {q,?_};have v:=by have:=á (s.heap.push (EY k l)) (o:={cls:=.type "enumerate",data:=.fields #[.none,.bool false,.ref ↑0,rawInt 0,.none,.none]}) rfl;rw[(Ģ ..)]at this;exact this
 refine{(Z3 _ v rfl),h _ {{_,v},IsSub.mk' (hP0 _ (á _ rfl))} λb o x=>hP0 _ (hP0 _ x)}
end
theorem Ji{K:O0}(hne:e≠it):
  Turn P w K (.Tuple elts kt pt) (Ite K k l) [e,it] e (λi h=>EnSt k e it l i h) where
 mem:=by simp
 obj:=λi h st b hb=>by
  obtain⟨⟨old,he⟩,hs⟩:=st;rcases (by simpa using hb)with rfl|rfl
  .exact(Z3 _ he (λv q=>by cases q))
  .exact hs.there
 keep:=λi h h' st kk=>by obtain⟨⟨old,he⟩,hs⟩:=st;exact{{old,kk e (by simp) _ he},hs.move λo q=>kk it (by simp) o q}
 item:=by
  rw[21];subst hP hw hK;refine hg.d λxs x q1 hx=>?_;refine(I.seqK q1).c λits r1 p1 _=>?_;refine(r1.get hx).a λu hu ru=>?_;have⟨⟨old,he⟩,hs⟩:=st;have hT:s.TypeIs (.ref e) "enumerate":={_,he,rfl}
  refine wB (ċ (í hT F.slot_enumerate_next (é F.slot_enumerate_next hT F.entry_enumerate_next
   (Vn he hs p1 (by simpa using hu) hne λh' a1 a2 a3 a4=>wP (Z3 _ rfl ?_)) (F.args_enumerate_next_1 _))))
  refine wpAny_letOwnedTupleGo_enum a1 λh2 z2 sb2=>?_
  have I0:Inv X pins σ _ {s with heap:=s.heap.push {cls:=.type "tuple",data:=.seq #[.int i s.toks,u]},toks:=s.toks+1}:=
   I.laid (o:=.tup [.int _,x]) (λb o e=>hP0 _ e) (à _) {by show 2<=sizeLine;decide,_,.cons {_,rfl} (.cons ru .nil),{_,á _ rfl,rfl,_,rfl}}
  have lt: ∀b∈[e,it],b<s.heap.objs.size:=λb hb=>by
   rcases (by simpa using hb)with rfl|rfl
   .exact â he
   .refine hs.there.a λo eo _=>?_;exact â eo
  have fr: ∀b∈[e,it],yP H ↑0 (.tup [.int (i:Nat),x]) b=none:=λb hb=>by rw[zH (å (lt b hb))];exact(hf b hb).1
  have mv: ∀b o,b∉[e,it]->(s.heap.push {cls:=.type "tuple",data:=.seq #[.int i s.toks,u]}).get? b=some o->h2.get? b=some o:=λb o hb eo=>by
   simp only[mC,nM,or_false,not_or]at hb;refine sb2.extBut _ _ hb.1 ?_;by_cases hbs:b=↑0
   .subst hbs;rw[á _ rfl]at eo;cases eo;exact a3
   .rw[Heap.get?_push_ne _ _ _ hbs]at eo;exact a4 b o hb.1 hb.2 eo
  refine Ys (.ref ↑0) _ (I0.turnedL (t':=s.toks+1) mv λb hb=>let ⟨_,c2,c3,c4,c5,c6⟩:=hf b hb;{fr b hb,c2,c3,c4,c5,c6}) rfl (Zo _ x (I.hok.fresh (à _)) rfl rfl (λzs hz=>?_)) {{u,?_},?_} fr
  .rw[I.seqK_inj hz q1];exact hx
  .simpa using z2
  .exact a2.move λo eo=>sb2.extBut _ _ (Ne.symm hne) eo
 done:=by
  rw[21];subst hP hw hK;obtain⟨xs,q1,hx⟩:=hg;refine(I.seqK q1).c λits r1 p1 _=>?_;have⟨⟨old,he⟩,hs⟩:=st;have hT:s.TypeIs (.ref e) "enumerate":=(Z3 _ he rfl)
  have e1:=r1.length;refine wB (ċ (í hT F.slot_enumerate_next (é F.slot_enumerate_next hT F.entry_enumerate_next ?_ (F.args_enumerate_next_1 _))));show wpAny _ _ (field _ 2 >>= _) _ _ _;refine wB (ï he rfl rfl ?_);refine wB (GW (I.ok.hd hc) hs p1 (by simp;lia) λh' x hk hx'=>?_);refine hx'.a λo ho hcl=>?_;refine wB (ĩ (Z3 o ho hcl) isSubtype_stop (wP {rfl,?_}));refine I.turnedL (λb o hb eo=>?_) hf;simp only[mC,nM,or_false,not_or]at hb;exact hk b o hb.2 eo
 self:=λ_ _ _ _ _ st h=>let ⟨⟨_,he⟩,_⟩:=st;wpAny_pyIter_enum he h
def zDL(K:O0)(b:TA):TI:=λσ H R=>b σ H λvs a=> ∃k l,vs=[.ref l]/\(∃xs,QT k K a l xs)/\R (Ite K k l) a
section
variable{a:Expr}{p:Pos}
def Wc(B:Gl X "enumerate")(w:X.mg "enumerate"=none)(E:PA X [a] ta)(hs:starEach [a] X.env=[(false,eval a X.env)]:=by rfl):
  PI X (.Tuple elts kt pt) (.Call (.Name "enumerate" p) [a] [] pos) (zDL X.K ta):=by
 intro pins s σ H R I h;refine Call_ (pT I B w (show bootBuiltins "enumerate"=some (.type "enumerate") by decide+kernel) (ĉ (xV (E pos pins s σ H _ I h) λG m ⟨vs,v,I1,y,j⟩=>?_) (by rw[hs];rfl) (by rfl)));refine j.b λk l J L q=>?_;subst J;obtain ⟨xs,D⟩:=L
 cases y with
 |cons r rr=>
  cases rr;subst r;refine(I1.seqK D).c λA F p1 _=>?_;refine Jh p1 λh' st C=>let ⟨⟨_,o⟩,_⟩:=id st;wpAny_pyIter_enum o ?_;refine Yq _ _ _ _ v rfl (I1.kept C) (Ji (ø (Nat.lt_succ_self _))) st (λb u=>?_) q;have c:m.heap.objs.size<=b:=by rcases (by simpa using u)with h|h<;>refine qq h ?_<;>(first |exact à _|exact Ğ _ _)
  exact I1.fpOk c (I1.hok.fresh c)
noncomputable def vL(xs:Q0):List MV:=xs.zipIdx.map λp=>.tup [.int (p.2:Nat),p.1]
def VT(rs:List Er)(S:Sto):R Wk:=match rs with
 |[p]=>match srcOf S p with
  |some a=>.ok {vL a.ds,a.gs} S
  |none=>.no
 |_=>.no
theorem We(U:Gl X "enumerate")(hm:X.mg "enumerate"=none)(C:KQ X W [a] af)(hs:starEach [a] X.env=[(false,eval a X.env)]:=by rfl):
  NZ X W (.Tuple elts kt pt) (.Call (.Name "enumerate" p) [a] [] pos) (λρ S=>(af ρ S).bind VT):=by
 refine C.a λt C k=>?_;refine Z3 _ (Wc U hm C hs) (λα ρ S σ H Rc Z sl q=>k α ρ S σ H _ Z sl (q.bind λvs rs O y M e Y I P b=>?_))
 replace b:=b.shift Y
 unfold VT at b;split at b
 .rename_i r1;split at b
  .rename_i m e1;refine(OA P).a λu V L=>?_;subst V;refine(IX I e1 L).b λl1 Q ac p1 c=>?_;subst ac;have E:(vL m.ds).length=m.ds.length:=by unfold vL;rw[lM,length_zipIdx]
   refine Z2 m.k l1 rfl {_,(c.get _ _ _ p1).choose_spec.1} (b.here I {λα S H=>Q α S H,?_,p1,?_,?_})
   .intro i s S2 N j D;refine(c.get _ _ _ j).a λA B F=>?_;have hl:=F.length;refine{λhi=>?_,λhi=>?_}
    .have hi:=hi;refine{(ZX A _ B (gE #[0])),?_};rintro x H' ⟨pp,J,K,rfl,rfl,hx⟩;refine(F.get (hx A B)).a λd hd T=>?_;have v:=D.newx (o:=.tup [.int (i:Nat),J]) K;have G:=D.new (o:=.tup [.int (i:Nat),J]) K;refine{v,G,c.stays _ _ _ _ _ _ j v G (c.st _ _ _ j),.tup [.int (i:Nat),d],?_,?_}
     .unfold vL;rw[ë,List.getElem?_zipIdx,hd];simp
     .exact nP (.of zM) (zT (xS _) (zT (T.ext v) yA))
    .have hi:=hi;exact Z3 A B (by lia)
   .intro y O M s S2 N j x w hs;exact c.stays _ _ _ _ _ _ j x w hs
   .exact c.st _ _ _ p1
  .exact b.elim
 .exact b.elim
end
instance:DecidableEq MV:=λ_ _=>Classical.propDecidable _
def look(kvs:Y0)(k:MV):Option MV:=(kvs.find? λp=>decide (p.1=k)).map (·.2)
def putK(kvs:Y0)(k d:MV):List (MV×MV):=if(look kvs k).isSome=true then kvs.map (λp=>if p.1=k then(p.1,d)else p)else kvs++[(k,d)]
noncomputable def FB:MV->Bool
 |.tup _=>true
 |_=>false
theorem ZI:xP .non=some (.key none):=by unfold xP;rfl
theorem lD(i):xP (.int i)=some (.key (some (.inl i))):=by unfold xP;rfl
theorem lE(x):xP (.str x)=some (.key (some (.inr (pU x)))):=by unfold xP;rfl
def lF(ds):xP (.tup ds)=(jZ ds).map .tup:=by
 conv=>lhs;unfold xP
theorem CM:jZ []=some []:=by unfold jZ;rfl
def dR(d)(ds):jZ (d::ds)=(xP d).bind λk=>(jZ ds).map (k::·):=by
 conv=>lhs;unfold jZ
mutual
theorem GY: ∀{d e:MV}{k:NK},xP d=some k->xP e=some k->d=e
 |.int i,e,k,hd,m=>by
  rw[lD]at hd;cases hd
  cases e with
  |int j=>rw[lD]at m;cases m;rfl
  |str x=>rw[lE]at m;cases m
  |tup ds=>rw[lF]at m;cases z:jZ ds<;>rw[z]at m<;>cases m
  |_=>unfold xP at m;cases m
 |.str x,e,k,hd,m=>by
  rw[lE]at hd;cases hd
  cases e with
  |int j=>rw[lD]at m;cases m
  |str y=>
   rw[lE]at m;have m:=è m;injection m with m
   injection m with m
   injection m with m
   rw[MD m]
  |tup ds=>rw[lF]at m;cases z:jZ ds<;>rw[z]at m<;>cases m
  |_=>unfold xP at m;cases m
 |.tup ds,e,k,hd,m=>by
  rw[lF]at hd
  cases z:jZ ds with
  |none=>rw[z]at hd;cases hd
  |some ks=>
   rw[z]at hd;cases hd
   cases e with
   |int j=>rw[lD]at m;cases m
   |str y=>rw[lE]at m;cases m
   |tup es=>
    rw[lF]at m
    cases a:jZ es with
    |none=>rw[a]at m;cases m
    |some ks'=>rw[a]at m;cases m;rw[SV z a]
   |_=>unfold xP at m;cases m
 |.non,e,k,hd,m=>by
  rw[ZI]at hd;cases hd
  cases e with
  |non=>rfl
  |int j=>rw[lD]at m;cases m
  |str x=>rw[lE]at m;cases m
  |tup ds=>rw[lF]at m;cases z:jZ ds<;>rw[z]at m<;>cases m
  |_=>unfold xP at m;cases m
 |.bl _,e,k,hd,m=>by unfold xP at hd;cases hd
 |.scr _,e,k,hd,m=>by unfold xP at hd;cases hd
 |.loc _,e,k,hd,m=>by unfold xP at hd;cases hd
 |.typ _,e,k,hd,m=>by unfold xP at hd;cases hd
 |.obj _ _ _,e,k,hd,m=>by unfold xP at hd;cases hd
theorem SV: ∀{ds es:Q0}{ks:List NK},jZ ds=some ks->jZ es=some ks->ds=es
 |[],es,ks,hd,he=>by
  rw[CM]at hd;cases hd
  cases es with
  |nil=>rfl
  |cons e es=>
   rw[dR]at he;cases z:xP e<;>rw[z]at he
   .cases he
   .cases j:jZ es<;>rw[j]at he<;>cases he
 |d::ds,es,ks,hd,he=>by
  rw[dR]at hd
  cases z:xP d with
  |none=>rw[z]at hd;cases hd
  |some k=>
   rw[z]at hd
   cases j:jZ ds with
   |none=>rw[j]at hd;cases hd
   |some ks2=>
    rw[j]at hd
    cases es with
    |nil=>rw[CM]at he;cases he;cases hd
    |cons e es=>
     rw[dR]at he
     cases m:xP e with
     |none=>rw[m]at he;cases he
     |some k'=>
      rw[m]at he
      cases q:jZ es with
      |none=>rw[q]at he;cases he
      |some ks4=>
       rw[q]at he;cases hd;cases he;rw[GY z m,SV j q]
end
section
variable{X:Cx}{pins:L0}{σ:St}{H:Hp}{s:Ō}{α:B9}
mutual
theorem JA(I:↑1): ∀{d:MV}{k:NK}{x:V}{u:ō},xP d=some k->Den X.K α H d x->RelV x u->QZ (mk X.prog X.w) s.heap k u
 |.int i,k,x,u,hk,hd,r=>by rw[lD]at hk;cases hk;cases iV hd;obtain⟨t,rfl⟩:=r;exact wD.mpr (by show rC (.inl i) (.int i t)=true;simp[rC,Value.isInt])
 |.str y,k,x,u,hk,hd,r=>by rw[lE]at hk;cases hk;cases sF hd;obtain⟨t,rfl⟩:=r;exact wD.mpr (by show rC (.inr (pU y)) (.str (pU y) t)=true;simp[rC,Value.isStrOf])
 |.tup ds,k,x,u,hk,hd,r=>by
  rw[lF]at hk
  cases z:jZ ds with
  |none=>rw[z]at hk;cases hk
  |some ks=>
   rw[z]at hk;cases hk;obtain⟨a,vs,rfl,q,l⟩:=bG hd;cases r;obtain⟨c,v,pt,_⟩:=I.tuple q;obtain⟨o,m,j,n,b⟩:=pt;exact xR.mpr {a,o,c.toArray,n,rfl,m,j,b,by simpa using Fs I z l v}
 |.non,k,x,u,hk,hd,r=>by rw[ZI]at hk;cases hk;cases UY hd;cases r;exact wD.mpr rfl
 |.bl _,k,x,u,hk,hd,r=>by unfold xP at hk;cases hk
 |.scr _,k,x,u,hk,hd,r=>by unfold xP at hk;cases hk
 |.loc _,k,x,u,hk,hd,r=>by unfold xP at hk;cases hk
 |.typ _,k,x,u,hk,hd,r=>by unfold xP at hk;cases hk
 |.obj _ _ _,k,x,u,hk,hd,r=>by unfold xP at hk;cases hk
theorem Fs(I:↑1): ∀{ds:Q0}{ks:List NK}{xs:List V}{us:A0},jZ ds=some ks->DenL X.K α H ds xs->Vals xs us->vT (mk X.prog X.w) s.heap ks us
 |[],ks,xs,us,hk,hd,r=>by rw[CM]at hk;cases hk;cases hd.isnil;cases r;exact wN.mpr rfl
 |d::ds,ks,xs,us,hk,hd,r=>by
  rw[dR]at hk;obtain⟨v,vs,rfl,a,l⟩:=hd.uncons
  cases r with
  |cons r1 r2=>
   cases z:xP d with
   |none=>rw[z]at hk;cases hk
   |some k=>
    rw[z]at hk
    cases b:jZ ds with
    |none=>rw[b]at hk;cases hk
    |some ks2=>
     rw[b]at hk;cases hk;exact yL.mpr {_,_,rfl,JA I z a r1,Fs I b l r2}
end
def DD(X:Cx)(H:Hp)(d:Addr)(xs:List (NK×Addr×ō)):Prop:=H d=some (DN X.prog X.w d xs)\/(xs=[]/\H d=some (.dK []))
def DD.nf(h:DD X H d xs): ∀ob u,H d≠some (.frz ob u):=h.elim (λz=>Lm z) λz=>by first |exact Lm z.2|exact z.elim
def zDM{S:Sto}(ob:ObD X.g α H d (.dic kvs))(b:kvs.all (λp=>FB p.1)=true): ∃xs,DD X H d xs/\DenN X.K α H kvs xs:=by
 rcases ob with⟨ks,h,l⟩|⟨xs,h,l⟩
 .cases l with
  |nil=>exact Z3 ([]) (.inr ⟨rfl,h⟩) .nil
  |@cons k k' dd v fs gs hkd a l=>
   rw[List.all_cons,aE]at b
   cases k with
   |tup ds=>exact absurd hkd (by unfold KeyD;exact λz=>z)
   |_=>exact absurd b.1 xF0
 .exact(Z3 xs (.inl h) l)
def Ft(I:↑1)(q:DenN X.K α H kvs xs): ∀x∈xs,(yB X.prog X.w).is s.heap x.1 x.2.1:=by
 induction q with
 |nil=>exact nofun
 |cons k e a d r l ih=>
  intro x b;rcases mC.mp b with rfl|b
  .exact{JA I k a rfl,e}
  .exact ih x b
def sI(I:↑1)(h:DD X H d xs)(l:DenN X.K α H kvs xs):s.heap.DictOfH (yB X.prog X.w) d xs/\↑7<=sizeLine/\(d==sysModules)=false:=by
 rcases h with h|⟨rfl,h⟩
 .obtain⟨⟨C,hs,o,es,q,m,j,hd,c,y⟩,_⟩:=(I.hok d _ h)
  exact{(Zj o es q {m,j,hd,c,Ft I l,y}),C,hs}
 .obtain⟨_,hs,vs,B,o,es,q,m,j,hd,_,v,_⟩:=(I.hok d _ h)
  cases B;have c:es.toList=[]:=by cases u:es.toList with |nil=>rfl|cons a b=>rw[u]at v;cases v
  exact{(Zj o es q {m,j,hd,(by rw[c];rfl),(λx A=>by simp at A),nodup_nil}),zero_le _,hs}
def xE(p)(kvs)(k):look (p::kvs) k=if p.1=k then some p.2 else look kvs k:=by
 unfold look;rw[find?_cons];by_cases h:p.1=k
 .rw[dT0 h,iP h];rfl
 .rw[dF0 h,iN h]
def FC(x)(xs)(k:NK):atKey (x::xs) k=if x.1=k then some x.2 else atKey xs k:=by
 unfold atKey;rw[find?_cons];by_cases h:x.1=k
 .rw[dT0 h,iP h];rfl
 .rw[dF0 h,iN h]
def VU(q:DenN X.K α H kvs xs)(b:xP k=some nk):(atKey xs nk).isSome=(look kvs k).isSome:=by
 induction q with
 |nil=>rfl
 |@cons k' nk' _ _ _ _ _ _ hk' e a d r l ih=>
  rw[xE,FC];by_cases h:k'=k
  .have m:nk'=nk:=by rw[h,b]at hk';exact(è hk').symm
   rw[iP m,iP h];rfl
  .have m:nk'≠nk:=λz=>h (GY hk' (by rw[b,z]));rw[iN m,iN h];exact ih
def Wf(q:DenN X.K α H kvs xs)(b:xP k=some nk)(hd:Den X.K α H d v)(r:RelV v u):DenN X.K α H (kvs.map λp=>if p.1=k then(p.1,d)else p) (xs.map (putAt nk u)):=by
 induction q with
 |nil=>exact .nil
 |@cons k' nk' _ _ _ _ _ _ hk' e a dd rr l ih=>
  rw[ç,ç];unfold putAt;by_cases h:k'=k
  .have m:nk'=nk:=by rw[h,b]at hk';exact(è hk').symm
   rw[iP h,iP m];exact .cons hk' e a hd r ih
  .have m:nk'≠nk:=λz=>h (GY hk' (by rw[b,z]));rw[iN h,iN m];exact .cons hk' e a dd rr ih
def DenN.append: ∀{kvs j}{xs m},DenN X.K α H kvs xs->DenN X.K α H j m->DenN X.K α H (kvs++j) (xs++m):=λb=>by
 induction b with
 |nil=>exact(λh=>h)
 |cons hk e a d r l ih=>exact(λh=>.cons hk e a d r (ih h))
def VV(l:DenN X.K α H kvs xs)(c:xP k=some nk)(e:sC nk<=4)(j:Den X.K α H k (.ref a))(hd:Den X.K α H d v)(r:RelV v u):DenN X.K α H (putK kvs k d) (storedH xs nk a u):=by
 unfold putK;have b:=VU l c;by_cases h:(look kvs k).isSome=true
 .rw[iP h];rw[h]at b;obtain⟨p,o⟩:=ê.mp b;rw[storedH_old o];exact Wf l c hd r
 .rw[iN h]
  have m:atKey xs nk=none:=by
   cases z:atKey xs nk with
   |none=>rfl
   |some p=>rw[z]at b;exact absurd b.symm h
  rw[storedH_new m];exact l.append (.cons c e j hd r .nil)
end
section
variable{X:Cx}{a o i:Expr}
def OM(I:↑1):sysModules<s.heap.objs.size:=lt_trans ↑15 ((I.mod.glob.keeps I.bk).lt)
theorem Wd.put(w:Wd gg α S H)(u:H p=none)(q:ObD gg (α++[p]) (yP H p ho) p m):Ext α H (α++[p]) (yP H p ho)/\Wd gg (α++[p]) (S++[m]) (yP H p ho):=by
 have x:=w.newx (o:=ho) u;refine{{{{[p],rfl},x.tup,x.frz},λb B=>?_,x.keep,x.has},{?_,?_,λl c ob j s=>?_}}
 .rcases ì.mp B with h|h
  .exact .inl h
  .rw[mS.mp h];exact .inr u
 .rw[lA,lA,w.len];rfl
 .exact Ŀ.mpr {w.nd,by simp,λa C c A=>by rw[mS.mp A];rintro rfl;exact(w.fresh u) C}
 .by_cases y:l<α.length
  .rw[ã y]at j;rw[ã (by rw[<-w.len];exact y)]at s;exact((w.new (o:=ho) u).obj l c ob j s).move (Ex0.grow α [p] _) rfl
  .have v:l=α.length:=by
    have:=(gS.mp j).1;rw[lA,lS]at this
    lia
   subst v;rw[æ (à _),sub_self]at j;rw[æ (by rw[w.len];exact à _),w.len,sub_self]at s;cases j;cases s;exact q
noncomputable def KW(S:Sto):R Er:=.ok (.val (.loc ↑2)) (S++[.dic []])
def Os:zS X W (.Dict [] [] pos) (λ_ S=>KW S):=by
 refine{λσ H Q=> ∀p,H p=none->Q (.ref p) (yP H p (.dK [])),λpins s σ H Q I h=>?_,λα j S σ H Q a sl q p c=>?_}
 .exact wpAny_Dict_empty (Z2 (.ref ↑0) _ (I.laid (o:=.dK []) (λ_ _ q=>hP0 _ q) (à _)
   {zero_le _,Ĉ.mpr (Ne.symm (å (OM I))),[],.nil,Heap.DictOf.new s.heap}) rfl (h _ (I.hok.fresh (à _))))
 .obtain⟨x,b⟩:=a.put (m:=.dic []) c (.inl {[],zM,.nil});exact q _ _ _ x b (DenE.val (oR (by rw[<-a.len,æ (à _),sub_self];rfl)))
def kO(S:Sto):Er->Option (Nat×List (MV×MV))
 |.val (.loc l)=>match S[l]? with
  |some (.dic kvs)=>if kvs.all (λp=>FB p.1)=true then some (l,kvs)else none
  |_=>none
 |_=>none
def keyOk(k:MV):Bool:=FB k&&(match xP k with |some nk=>decide (sC nk<=4)|none=>false)
def GZ(h:keyOk k=true): ∃j,xP k=some j/\sC j<=4/\FB k=true:=by
 unfold keyOk at h;rw[aE]at h
 cases z:xP k with
 |none=>rw[z]at h;exact absurd h.2 xF0
 |some j=>rw[z]at h;exact Z0 j rfl (ė h.2) h.1
def AB(m:Wd X.g α S H)(e:kO S r=some (l,kvs))(d:DenX X.K α H r x):
  ∃c xs,x=.ref c/\α[l]? =some c/\S[l]? =some (.dic kvs)/\DD X H c xs/\DenN X.K α H kvs xs:=by
 unfold kO at e;split at e
 .rename_i n;refine(bV d).a λc k h=>?_;subst k;split at e
  .rename_i o a;split at e
   .rename_i j;obtain⟨rfl,rfl⟩:=Prod.mk.inj (è e);refine(zDM (S:=S) (m.obj _ c _ h a) j).a λxs b l=>?_;exact Ys c xs rfl h a b l
   .cases e
  .cases e
 .cases e
def MM(h:FB k=true)(d:Den X.K α H k x): ∃a,x=.ref a:=by
 cases k with
 |tup ds=>refine(bG d).d λa _ b _=>?_;subst b;exact⟨a,rfl⟩
 |_=>exact absurd h xF0
def zDN(X:Cx):TSet:=λo i v H Q=> ∃(α:B9)(kvs:Y0)(xs:List (NK×Addr×ō))(a d:Addr)(k:MV)(b:NK),o=.ref d/\i=.ref a/\DD X H d xs/\DenN X.K α H kvs xs/\xP k=some b/\sC b<=4/\Den X.K α H k (.ref a)/\↑7<sizeLine/\
 ∀u,RelV v u->Q (yP H d (DN X.prog X.w d (storedH xs b a u)))
def FD{k:NK}{a:Addr}:(storedH xs k a u).length<=↑7+1:=by
 cases h:atKey xs k with
 |none=>rw[storedH_new h,lA];exact à _
 |some p=>rw[storedH_old h,lM];exact le_succ _
def HA(p q:Er)(d:MV)(ρ:Rho)(S:Sto):R Rho:=match q with
 |.val k=>match kO S p with
  |some (l,kvs)=>if keyOk k=true/\kvs.length<1000000 then .ok ρ (S.set l (.dic (putK kvs k d)))else .no
  |none=>.no
 |_=>.no
def DenN.length: ∀{kvs xs},DenN X.K α H kvs xs->↑7=kvs.length:=λa=>by
 induction a with
 |nil=>exact rfl
 |cons _ _ _ _ _ l ih=>exact by rw[lC,lC,ih]
def Wg(hu:X.A.units+64<cLine)(m:zS X W o f)(hi:zS X W i g)
  (ha: ∀v,assign (.Subscript o i pos) X.env v=(do
   let D <-holding [v] (eval o X.env);let G <-holding [v,D] (eval i X.env)
   standAt pos
   holding [v,D,G] (setItem D G v)
   release [v,D,G] []):=by intro _;rfl):Iu X W (.Subscript o i pos) (λd ρ S=>(f ρ S).bind λp Y=>(g ρ Y).bind λq S2=>HA p q d ρ S2):=by
 refine m.a λto m fo=>?_;refine hi.a λti hi fi=>?_;refine(Z3 _ (Br m hi ((show Lv X (zDN X) by
   intro pins s σ H o i v D G u Q I ro ri rv h;refine h.v λα C xs a d k E V=>V.s λac am y l J e ha hz q=>?_;subst ac;subst am;subst ro;subst ri;refine(sI I y l).f λhm N hs=>?_;refine wpAny_setItem_heap (knd:=yB X.prog X.w) (show X.A.units+1+4<cLine by lia) {JA I J ha rfl,e} hm (λh' O P=>(Z3 _ ?_ (q u rv))) N;have mu:D8 (H d):=by rcases y with z|⟨_,z⟩<;>refine qq z ?_<;>exact trivial
   refine O.h λob es ep a0=>a0.e λm L hd he _ hn=>?_;refine I.write mu (.inl rfl) (λb uo hb eo=>(P.2 b hb).trans eo) ⟨ob,m⟩ ?_;refine{{by have:=FD (xs:=xs) (k:=E) (a:=a) (u:=u);lia,hs,ob,es,ep,m,L,hd,he,hn},⟨ob,m⟩,?_};rintro U h2 ⟨z1,z2,o',aa,M,Z,r⟩ mv;exact{z1,z2,o',aa,M,mv o' Z,r})) ha) (λα ρ S σ H d v Q wd sl de q=>fo α ρ S σ H _ wd sl (q.bind λu p Y T H1 e1 K w1 d1 q1=>fi T ρ Y σ H1 _ w1 (sl.ext K) ((q1.shift K).bind λu2 p2 S2 B H2 e2 F w2 d2 j=>?_))))
 replace j:=j.shift F
 unfold HA at j;split at j
 .rename_i k;split at j
  .rename_i l C e;split at j
   .rename_i J;refine(GZ J.1).c λE U h2 h3=>?_;refine(AB w2 e (DenX.ext F d1.1)).n λc xs ap L hS y dl=>?_;subst ap;obtain⟨a',rfl⟩:=MM h3 d2.1;refine Yg B C xs a' c k E {rfl,rfl,y,dl,U,h2,d2.1,?_,(λu ru=>?_)}
    .rw[dl.length];exact ä J.2 (fits (à _))
    .have xw:=w2.writex L y.nf (o:=DN X.prog X.w c (storedH xs E a' u));exact j σ B _ xw (w2.write L y.nf (.inr (Z3 _ zM ((VV dl U h2 d2.1 ((de.ext K).ext F) ru).ex0 xw.toEx0)))) (((sl.ext K).ext F).ext xw)
   .exact j.elim
  .exact j.elim
 .exact j.elim
end
def FsD(g:Gm)(α:B9)(H:Hp)(d:Option Addr)(fs:List (Str×MV)):Prop:=fs=[]\/ ∃a gs b,d=some a/\H a=some (.frz b (.xd gs))/\DenF g.K α H fs gs
abbrev WE(g:Gm)(E:XK):XW:=λc fs _ α H=> ∀C d,g.mg c=some (.ref C)->FsD g α H d fs->E (.ref C) d H
noncomputable def V1:MV->Bool
 |.non=>true
 |.bl _=>true
 |.int _=>true
 |.str _=>true
 |_=>false
def Post.wmono[Dn β τ](f: ∀c fs S α' H',W c fs S α' H'->W' c fs S α' H'): ∀{m:R β}{Q},Post g W α H m Q->Post g W' α H m Q
 |.ok b S,Q,q=>q
 |.exc c fs S,_,q=>λα' H' x w=>f _ _ _ _ _ (q α' H' x w)
 |.no,_,q=>q
def XCl(K:O0)(C:Addr)(c:A0)(a:Option ō):Prop:=
 ∃v q N bs hd s sub o b w u y m j A,K.lookup C=some (excClassObj v q C N bs c hd s sub o b w u y m j A "ValueError.__new__")/\PySem.W.nsOkIn K N=true/\PySem.W.nsIn K N "__init__"=some a/\(∀n∈qn,PySem.W.nsIn K N n=some none)/\hd=true
def XEach(K:O0)(mg:G0)(M:Addr):List (Str×Addr)->Prop
 |[]=>True
 |(c,C)::r=>(mg c=some (.ref C)/\ ∃i,XCl K C (.ref M::zFV) i)/\XEach K mg M r
theorem XEach.at{K:O0}: ∀{cs},XEach K mg M cs-> ∀{c C},(c,C)∈cs->mg c=some (.ref C)/\ ∃i,XCl K C (.ref M::zFV) i
 |_::r,h,c',C',z=>by
  rcases mC.mp z with z|z
  .cases z;exact h.1
  .exact XEach.at h.2 z
def zFX(g:Gm)(n:Nat)(F:↑13):Sp:=λvs H Q E=> ∃α S a,Wd g α S H/\DenL g.K α H a vs/\a.length=n/\Post g (WE g E) α H (F a S) Q
def Fv(n:Nat)(F:List MV->Sto->R Er)(rs:List Er)(S:Sto):R Er:=if rs.length=n then(match F (zK rs S).1 (zK rs S).2 with
 |.ok r S2=>hX S r S2
 |.exc c fs S2=>if fs.all (λp=>V1 p.2)=true then(hX S (.val .non) S2).bind λ_ a=>.exc c fs a else .exc c fs S2
 |.no=>.no)else .no
section
variable{K:O0}
def _root_.L2.FnOk.noX(G:FnOk P w K mg base (CXe P w) k f fd ps (zFX g n F)):FnOk P w K mg base rE k f fd ps (KR g n F):=by
 have j: ∀{vs H Q}, ∀{E},KR g n F vs H Q E->zFX g n F vs H Q E0:=λ⟨α,S,m,I,q,v,D⟩=>(Ze (α) S m I q v (D.wmono λ_ _ _ _ _ z=>z.elim))
 refine{λvs H Q E h=>G.len vs H Q E0 (j h),λA a s H b u vs Q E B C o y h=>codeAny_mono (G.run A a s H b u vs Q E0 B C o y (j h)) λr J c=>?_}
 cases r with
 |error e=>
  obtain⟨_,_,_,_,_,_,_,_,_,_,_,_,_,_,_,z⟩:=c;exact z
 |ok fl=>cases fl<;>exact c
end
end M
end L2
namespace L2
open PySem PySem.Spec PyProof.Rows
structure Out(X:Cx)(pins:L0)(H:Hp)(s:Ō)(b:Addr):Prop where
 s0:X.s₀.heap.get? b=none
 h:H b=none
 pin: ∀p∈X.pn++pins,p.1≠b
 fld: ∃o vs,s.heap.get? b=some o/\o.data=.fields vs
section
variable{e:Addr}
def Out.ne(o:Out X pins H s b)(a:s.heap.get? c=some oc)(nf: ∀vs,oc.data≠.fields vs):c≠b:=λz=>by refine o.fld.d λob vs m j=>?_;rw[z,m]at a;cases a;exact nf vs j
def Out.loc(o:Out X pins H s b)(I:↑1):X.env.locals≠b:=by refine I.loc.a λm k _=>?_;obtain ⟨j,es,q,a,c,_⟩:=k;exact o.ne a λvs z=>by rw[c]at z;cases z
def HdA(A:Around)(H:Hp):Prop:= ∃e ob u,A.handled=some (.ref e)/\H e=some (.frz ob u)/\ ∃vs,ob.data=.fields vs/\vs[2]? =some .none
end
end L2
namespace L2
namespace M
open PySem PySem.Spec PyProof.Rows
noncomputable def endF(i:Nat):Fl->Sto->R Fl
 |.next ρ,S=>.ok (.next (ρ.set i none)) S
 |.ret r,S=>.ok (.ret r) S
 |.brk ρ,S=>.ok (.brk (ρ.set i none)) S
 |.cont ρ,S=>.ok (.cont (ρ.set i none)) S
def V2(b:D0)(i:Nat)(kn:Er->Sto->R Fl)(a:AY)(ρ:Rho):R Er->R Fl
 |.ok r S=>kn r S
 |.exc c fs S=>if c∈b then(noX (a (ρ.set i (some (.loc S.length))) (S++[.ins c fs]))).bind (endF i)else .no
 |.no=>.no
end M
end L2
namespace Srt
open PySem PyProof.Rows
section
def ZJ{st:σ}(h:Q () st):wpS M A E s (liftM (rule x)) Q st:=wpS_lift (Ě ⟨rfl,h⟩)
end
end Srt
namespace Srt
variable{β:Type}{le:β->β->Prop}
structure Two(le:β->β->Prop)(T out xs ys:List β):Prop where
 hx:(out++xs).Pairwise le
 hy:(out++ys).Pairwise le
 pm:(out++(xs++ys)).Perm T
structure TwoR(le:β->β->Prop)(T xs ys R:List β):Prop where
 hx:(xs++R).Pairwise le
 hy:(ys++R).Pairwise le
 pm:(xs++ys++R).Perm T
end Srt
namespace Srt
open PySem PyProof.Rows
abbrev SM:=StateT SortSt Sem
end Srt
namespace Srt
open PySem PyProof.Rows
section
variable{M:Model}{A:Around}{E:VP}{s:Ō}
structure Cmp(M:Model)(A:Around)(E:VP)(s:Ō)(kd:SortKind)(D:Keyed->Prop)(lt:Keyed->Keyed->Bool):Prop where
 go: ∀x y,D x->D y-> ∀st:SortSt,kindOf st=kd-> ∀Q:Option Bool->SortSt->Prop,Q (some (lt x y)) st->wpS M A E s (lt' x y) Q st
 tr: ∀x y z,lt y x=false->lt z y=false->lt z x=false
 as: ∀x y,lt x y=true->lt y x=false
abbrev Le(lt:↑16)(x y:Keyed):Prop:=lt y x=false
def Cmp.rf(C:Cmp M A E s kd D lt)(x):Le lt x x:=by
 show lt x x=false
 cases h:lt x x with
 |false=>rfl
 |true=>exact absurd h (by rw[C.as x x h];simp)
def SL(lt:↑16)(l:List Keyed)(b n:Nat):Prop:= ∀i j x y,i<=j->j<n->l[b+i]? =some x->l[b+j]? =some y->lt y x=false
def Fw{st:SortSt}(e:v.toList[i]? =some x)(h:Q x st):wpS M A E s (elem' v i) Q st:=by
 rw[elem'_eq];have:v[i]? =some x:=by rw[<-ñ];exact e
 rw[this];exact wpS_pure h
def A7{v:Array Keyed}(h:i<v.size): ∃x,v.toList[i]? =some x:={v.toList[i]'(by simpa using h),gE _}
end
end Srt
namespace Srt
open PySem PyProof.Rows
abbrev V:=Array Keyed
abbrev L6:=Option V×V×Nat×Nat×Nat×Nat
noncomputable abbrev dnL(a b o:V)(i j:Nat):V:=o++a.extract i a.size++b.extract j b.size
noncomputable abbrev laL(a b o:V)(i j:Nat):V:=o++b.extract j b.size++a.extract i a.size
def one1(a b:V)(g:Nat)(c:L6):SM (ForInStep L6):=
 elem' b c.2.2.2.1 >>= λy=>elem' a c.2.2.1 >>= λx=>lt' y x >>= λr=>match r with
  |some q=>if q=true then elem' b c.2.2.2.1 >>= λy=>
     if(c.2.2.2.1+1==b.size)=true then pure (.done (some (dnL a b (c.2.1.push y) c.2.2.1 (c.2.2.2.1+1)),c.2.1.push y,c.2.2.1,c.2.2.2.1+1,0,c.2.2.2.2.2+1))
     else if c.2.2.2.2.2+1>=g then pure (.done (none,c.2.1.push y,c.2.2.1,c.2.2.2.1+1,0,c.2.2.2.2.2+1))
     else pure (.yield (none,c.2.1.push y,c.2.2.1,c.2.2.2.1+1,0,c.2.2.2.2.2+1))
    else elem' a c.2.2.1 >>= λx=>
     if(c.2.2.1+1+1==a.size)=true then pure (.done (some (laL a b (c.2.1.push x) (c.2.2.1+1) c.2.2.2.1),c.2.1.push x,c.2.2.1+1,c.2.2.2.1,c.2.2.2.2.1+1,0))
     else if c.2.2.2.2.1+1>=g then pure (.done (none,c.2.1.push x,c.2.2.1+1,c.2.2.2.1,c.2.2.2.2.1+1,0))
     else pure (.yield (none,c.2.1.push x,c.2.2.1+1,c.2.2.2.1,c.2.2.2.2.1+1,0))
  |_=>pure (.done (some (dnL a b c.2.1 c.2.2.1 c.2.2.2.1),c.2.1,c.2.2.1,c.2.2.2.1,c.2.2.2.2.1,c.2.2.2.2.2))
def in1(a b:V)(t g:Nat)(c:L6):SM L6:=forIn [0:t] c λ_ c=>one1 a b g c
end Srt
namespace Srt
open PySem PyProof.Rows
def Sg(st a:SortSt):Prop:= ∃g,a=SortSt.mk' (kindOf st) (arrOf st) (pendingOf st) g (failedOf st)
def Sg.refl(st):Sg st st:={gallopOf st,rfl}
theorem Sg.kind{st:SortSt}(h:Sg st st'):kindOf st'=kindOf st:=by obtain⟨g,rfl⟩:=h;rfl
section
abbrev TwoA(lt:↑16)(a b o:V)(i j:Nat):Prop:=Two (Le lt) (a.toList++b.toList) o.toList (a.toList.drop i) (b.toList.drop j)
def FinA(lt:↑16)(a b r:V):Prop:=r.toList.Pairwise (Le lt)/\r.toList.Perm (a.toList++b.toList)
def TwoA.len(h:TwoA lt a b o i j):o.size+((a.size - i)+(b.size - j))=a.size+b.size:=by have:=h.pm.length_eq;simpa [lA,Ĩ]using this
def I1(lt:↑16)(a b o:V)(i j:Nat):Prop:=i+1<a.size/\j<b.size/\TwoA lt a b o i j
def N6(lt:↑16)(a b:V)(n:Nat)(c:L6):Prop:= ∃o i j p q,c=(none,o,i,j,p,q)/\I1 lt a b o i j/\n<=o.size
end
end Srt
namespace Srt
open PySem PyProof.Rows
abbrev H5:=Option V×Nat×Nat×V×Nat
abbrev H6:=Option V×Nat×Nat×V×Nat×Nat
abbrev H7:=Option V×Nat×Nat×V×Nat×Nat×Nat
section
abbrev TwoH(lt:↑16)(a b o:V)(i j:Nat):Prop:=TwoR (Le lt) (a.toList++b.toList) (a.toList.take i) (b.toList.take j) o.toList.reverse
theorem TwoH.len(h:TwoH lt a b o i j)(c:i<=a.size)(m:j<=b.size):o.size+(i+j)=a.size+b.size:=by
 have:=h.pm.length_eq;simp only[lA,lT,List.length_reverse,î]at this
 lia
def J1(lt:↑16)(a b o:V)(i j:Nat):Prop:=1<=i/\i<=a.size/\2<=j/\j<=b.size/\TwoH lt a b o i j
def R6(lt:↑16)(a b:V)(n:Nat)(c:H6):Prop:= ∃i j o p q,c=(none,i,j,o,p,q)/\J1 lt a b o i j/\n<=o.size
def S6(lt:↑16)(a b:V)(n:Nat)(c:H6):Prop:=(∃r e,c=(some r,e)/\FinA lt a b r)\/R6 lt a b n c
end
end Srt
namespace Srt
open PySem PyProof.Rows
abbrev C2:=Option (Option Nat)×Nat
abbrev C3:=Option (Option Nat)×Nat×Nat
def V3(lo a n:Nat):SM C2:=forIn [a:n] ((none,a):C2) λ_ c=>ltAt' (lo+c.2) (lo+c.2 - 1) >>= λo=>match o with
 |some q=>if q=true then pure (.done (none,c.2))else pure (.yield (none,c.2+1))
 |_=>pure (.done (some none,c.2))
def tl3(lo m n:Nat):SM (Option Nat):=reverseSlice' lo (lo+m) >>= λ_=>V3 lo m n >>= λc=>match c.1 with
 |some r=>pure r
 |none=>pure (some c.2)
def zDO(lo a n:Nat):SM C3:=forIn [a:n] ((none,a,0):C3) λ_ c=>ltAt' (lo+c.2.1) (lo+c.2.1 - 1) >>= λo=>match o with
 |some q=>if q=true then
    if c.2.2>0 then reverseSlice' (lo+c.2.1 - (c.2.2+1)) (lo+c.2.1) >>= λ_=>pure (.yield (none,c.2.1+1,0))else pure (.yield (none,c.2.1+1,0))
   else ltAt' (lo+c.2.1 - 1) (lo+c.2.1) >>= λo=>match o with
    |some q=>if q=true then pure (.done (none,c.2.1,c.2.2))else pure (.yield (none,c.2.1+1,c.2.2+1))
    |_=>pure (.done (some none,c.2.1,c.2.2))
 |_=>pure (.done (some none,c.2.1,c.2.2))
def V4(lo m n:Nat):SM (Option Nat):=liftM (rule "list.sort.descending-run") >>= λ_=>zDO lo (m+1) n >>= λc=>match c.1 with
 |some r=>pure r
 |none=>if c.2.2>0 then reverseSlice' (lo+c.2.1 - (c.2.2+1)) (lo+c.2.1) >>= λ_=>tl3 lo c.2.1 n else tl3 lo c.2.1 n
def cntR(lo n:Nat):SM (Option Nat):=V3 lo 1 n >>= λc=>match c.1 with
 |some r=>pure r
 |none=>if(c.2==n)=true then pure (some c.2)else if c.2>1 then ltAt' lo (lo+c.2 - 1) >>= λo=>(match o with
    |some q=>if q=true then pure (some c.2)else reverseSlice' lo (lo+c.2) >>= λ_=>V4 lo c.2 n
    |_=>pure none)
   else V4 lo c.2 n
theorem RJ(lo n):countRun' lo n=cntR lo n:=by kernel_rfl
def binI(lo k:Nat):SM (Option Bool×Nat×Nat):=forIn [0:k] ((none,0,k):Option Bool×Nat×Nat) λ_ c=>
 if c.2.1>=c.2.2 then pure (.done (none,c.2.1,c.2.2))else ltAt' (lo+k) (lo+(c.2.1+c.2.2) / 2) >>= λo=>match o with
  |some q=>if q=true then pure (.yield (none,c.2.1,(c.2.1+c.2.2) / 2))else pure (.yield (none,(c.2.1+c.2.2) / 2+1,c.2.2))
  |_=>pure (.done (some false,c.2.1,c.2.2))
def zDP(lo n ok:Nat):SM Bool:=(forIn [max ok 1:n] ((none,()):Option Bool×Unit) λk _=>binI lo k >>= λc=>match c.1 with
  |some r=>pure (.done (some r,()))
  |none=>moveDown' (lo+k) (lo+c.2.1) >>= λ_=>pure (.yield (none,()))) >>= λc=>match c.1 with
 |some r=>pure r
 |none=>pure true
theorem LT(lo n ok):binarySort' lo n ok=zDP lo n ok:=by kernel_rfl
noncomputable def Kx(d:Keyed)(v:V)(i:Nat):Keyed:=(v[i]?).getD d
def AC(h:v[i]? =u[j]?):Kx d v i=Kx d u j:=by unfold Kx;rw[h]
def JB(b:j<=v.size)(k):Kx d (mirror v i j ((j - i) / 2)) k=if i<=k/\k<j then Kx d v (i+j - 1 - k)else Kx d v k:=by
 have e:=getElem?_mirror_all (i:=i) b k;by_cases a:i<=k/\k<j
 .rw[iP a]at e ⊢; exact AC e
 .rw[iN a]at e ⊢; exact AC e
def SW(hs:src<v.size)(c:m<=src)(k):
  Kx d (bubble v src m) k=if k=src - m then Kx d v src else if src - m<k/\k<=src then Kx d v (k - 1)else Kx d v k:=by
 have e:=getElem?_bubble hs m c k;by_cases a:k=src - m
 .rw[iP a]at e ⊢; exact AC e
 .rw[iN a]at e ⊢;by_cases b:src - m<k/\k<=src
  .rw[iP b]at e ⊢; exact AC e
  .rw[iN b]at e ⊢; exact AC e
structure SB(a₀:V)(kd:SortKind)(pd:Array (Nat×Nat×Nat))(f:V)(lo:Nat)(st:SortSt):Prop where
 pm:(arrOf st).Perm a₀
 kind:kindOf st=kd
 fl:failedOf st=none
 pd:pendingOf st=pd
 fx: ∀i,i<lo->(arrOf st)[i]? =f[i]?
section
variable{pd:Array (Nat×Nat×Nat)}{lo:Nat}{st:SortSt}
def SB.size(h:SB a₀ kd pd f lo st):(arrOf st).size=a₀.size:=h.pm.size_eq
theorem SB.rev(h:SB a₀ kd pd f lo st)(hi:lo<=i)(a:j<=a₀.size):SB a₀ kd pd f lo (setArr st (mirror (arrOf st) i j ((j - i) / 2))):=
 {(mirror_perm _ _ _ _).trans h.pm,h.kind,h.fl,h.pd,λk b=>by rw[getElem?_mirror_all (by rw[h.size];exact a),iN #[0]];exact h.fx k b}
theorem SB.bub(h:SB a₀ kd pd f lo st)(hi:lo+m<=i)(a:i<a₀.size):SB a₀ kd pd f lo (setArr st (bubble (arrOf st) i m)):=
 {(bubble_perm _ _ _).trans h.pm,h.kind,h.fl,h.pd,λk b=>by rw[getElem?_bubble (by rw[h.size];exact a) _ #[0],iN #[0],iN #[0]];exact h.fx k b}
def HB(C:Cmp M A E s kd D lt)(h:SB a₀ kd pd f lo st)(c: ∀x,x∈a₀.toList->D x)(hi:i<a₀.size)(v:j<a₀.size)
  (hq:Q (some (lt (Kx d (arrOf st) i) (Kx d (arrOf st) j))) st):wpS M A E s (ltAt' i j) Q st:=by
 obtain⟨x,a⟩:=A7 (by rw[h.size];exact hi);obtain⟨y,b⟩:=A7 (by rw[h.size];exact v);have o:=(Array.perm_iff_toList_perm.mp h.pm).mem_iff.mp (ò a);have q:=(Array.perm_iff_toList_perm.mp h.pm).mem_iff.mp (ò b);have m:Kx d (arrOf st) i=x:=by unfold Kx;rw[<-ñ,a];rfl
 have u:Kx d (arrOf st) j=y:=by unfold Kx;rw[<-ñ,b];rfl
 rw[m,u]at hq;refine wpS_bind (wpS_get ?_);exact wpS_bind (Fw a (wpS_bind (Fw b (C.go x y (c x o) (c y q) st h.kind _ hq))))
def VW(h:Q () (setArr st (mirror (arrOf st) i j ((j - i) / 2)))):wpS M A E s (reverseSlice' i j) Q st:=by rw[reverseSlice'_eq];exact wpS_modify h
def Up(lt:↑16)(d:Keyed)(v:V)(lo n:Nat):Prop:= ∀i j,i<=j->j<n->Le lt (Kx d v (lo+i)) (Kx d v (lo+j))
def Dn(lt:↑16)(d:Keyed)(v:V)(lo n:Nat):Prop:= ∀i j,i<=j->j<n->Le lt (Kx d v (lo+j)) (Kx d v (lo+i))
theorem Up.step(C:Cmp M A E s kd D lt)(hs:Up lt d v lo x)(u:1<=x)(o:lt (Kx d v (lo+x)) (Kx d v (lo+x - 1))=false):Up lt d v lo (x+1):=by
 intro i j a q;by_cases c:j<x
 .exact hs i j a c
 .have m:j=x:=by lia
  subst m;by_cases b:i=j
  .subst b;exact C.rf _
  .have:=hs i (j - 1) #[0] #[0];rw[show lo+(j - 1)=lo+j - 1 by lia]at this;exact C.tr _ _ _ this o
theorem Fx(C:Cmp M A E s kd D lt)(w: ∀x,x∈a₀.toList->D x)(h:SB a₀ kd pd f lo st)(B:lo+n<=a₀.size)(y:1<=a)(q:a<=n)(hs:Up lt d (arrOf st) lo a)
  (hq: ∀m,a<=m->m<=n->Up lt d (arrOf st) lo m->(m=n\/lt (Kx d (arrOf st) (lo+m)) (Kx d (arrOf st) (lo+m - 1))=true)->Q (none,m) st):wpS M A E s (V3 lo a n) Q st:=by
 refine wpS_forRange (I:=λx c j=>j=st/\c=(none,x)/\Up lt d _ lo x) ?_ ?_ ⟨rfl,rfl,hs⟩
 .rintro x c j o v ⟨rfl,rfl,b⟩;refine wpS_bind (HB (d:=d) C h w #[0] #[0] ?_)
  cases u:lt _ _ with
  |true=>exact wpS_pure (hq x o #[0] b (.inr u))
  |false=>exact wpS_pure {rfl,rfl,b.step C #[0] u}
 .rintro c j ⟨rfl,rfl,b⟩;rw[show max a n=n by lia]at b ⊢;exact hq n q (à _) b (.inl rfl)
theorem Up.of_mirror(h:SB a₀ kd pd f lo st)(a:lo+m<=a₀.size)(hs:Dn lt d (arrOf st) lo m):Up lt d (mirror (arrOf st) lo (lo+m) ((lo+m - lo) / 2)) lo m:=by intro i j b c;rw[JB (by rw[h.size];exact a),JB (by rw[h.size];exact a),iP #[0],iP #[0]];have:=hs (m - 1 - j) (m - 1 - i) (by omega) (by omega);rw[show lo+(m - 1 - j)=lo+(lo+m) - 1 - (lo+j) by omega,show lo+_=lo+(lo+m) - 1 - (lo+i) by omega]at this;exact this
theorem Ot(C:Cmp M A E s kd D lt)(c: ∀x,x∈a₀.toList->D x)(h:SB a₀ kd pd f lo st)(u:lo+n<=a₀.size)(b:1<=m)(a:m<=n)(hs:Dn lt d (arrOf st) lo m)
  (hq: ∀m q,SB a₀ kd pd f lo q->1<=m->m<=n->Up lt d (arrOf q) lo m->Q (some m) q):wpS M A E s (tl3 lo m n) Q st:=by
 refine wpS_bind (VW ?_);have h':=h.rev (j:=lo+m) (à _) #[0];exact wpS_bind (Fx C c h' u b a (Up.of_mirror h #[0] hs) λk w v o _=>wpS_pure (hq k _ h' #[0] v o))
def zDQ(lt:↑16)(d:Keyed)(v:V)(i j:Nat):Prop:= ∀k l,i<=k->k<j->i<=l->l<j->Le lt (Kx d v k) (Kx d v l)
def Dn.mirror(C:Cmp M A E s kd D lt)(h:SB a₀ kd pd f lo st)(o:j<=a₀.size)(c:zDQ lt d (arrOf st) i j)(hs:Dn lt d (arrOf st) lo n):Dn lt d (mirror (arrOf st) i j ((j - i) / 2)) lo n:=by
 have a: ∀k,Le lt (Kx d (PyProof.Rows.mirror (arrOf st) i j ((j - i) / 2)) k) (Kx d (arrOf st) k)/\Le lt (Kx d (arrOf st) k) (Kx d (PyProof.Rows.mirror (arrOf st) i j ((j - i) / 2)) k):=by
  intro k;rw[JB (by rw[h.size];exact o)];split
  .exact{c _ _ (by omega) (by omega) (by omega) (by omega),c _ _ (by omega) (by omega) (by omega) (by omega)}
  .exact{C.rf _,C.rf _}
 intro p q b m;exact C.tr _ _ _ (a _).1 (C.tr _ _ _ (hs p q b m) (a _).2)
theorem Wh(C:Cmp M A E s kd D lt)(O: ∀x,x∈a₀.toList->D x)(h:SB a₀ kd pd f lo st)(hn:lo+n<=a₀.size)(S:1<=a)(H:a<=n)(hs:Dn lt d (arrOf st) lo a)
  (hq: ∀m e q,SB a₀ kd pd f lo q->a<=m->m<=n->Dn lt d (arrOf q) lo m->e+1<=m->zDQ lt d (arrOf q) (lo+m - (e+1)) (lo+m)->Q (none,m,e) q):wpS M A E s (zDO lo a n) Q st:=by
 refine wpS_forRange (I:=λx c q=> ∃e,c=(none,x,e)/\SB a₀ kd pd f lo q/\Dn lt d (arrOf q) lo x/\e+1<=x/\zDQ lt d (arrOf q) (lo+x - (e+1)) (lo+x)) ?_ ?_
  {0,rfl,h,hs,(by omega),(λk l S W Y T=>by rw[show k=l by lia];exact C.rf _)}
 .rintro x c q J U ⟨e,rfl,u,b,o,w⟩;have one: ∀v:V,zDQ lt d v (lo+(x+1) - (0+1)) (lo+(x+1)):=λv k l S W Y T=>by rw[show k=l by lia];exact C.rf _
  refine wpS_bind (HB (d:=d) C u O #[0] #[0] ?_)
  cases P:lt _ _ with
  |true=>
   have K:Dn lt d (arrOf q) lo (x+1):=by
    intro i j y Z;by_cases B:j<x
    .exact b i j y B
    .have G:j=x:=by lia
     subst G;by_cases F:i=j
     .subst F;exact C.rf _
     .have:=b i (j - 1) #[0] #[0];rw[show lo+_=lo+j - 1 by lia]at this;exact C.tr _ _ _ (C.as _ _ P) this
   dsimp only;rw[iP rfl];by_cases L:e>0
   .rw[iP L];refine wpS_bind (VW (wpS_pure {0,rfl,u.rev #[0] #[0],K.mirror C u #[0] w,(by lia),one _}))
   .rw[iN L];exact wpS_pure {0,rfl,u,K,(by lia),one _}
  |false=>
   dsimp only;rw[iN (by simp)];refine wpS_bind (HB (d:=d) C u O #[0] #[0] ?_)
   cases N:lt _ _ with
   |true=>exact wpS_pure (hq x e q u J #[0] b o w)
   |false=>
    refine wpS_pure {_,rfl,u,(λi j y Z=>?_),(by lia),(λk l k1 k2 k3 k4=>?_)}
    .by_cases B:j<x
     .exact b i j y B
     .have G:j=x:=by lia
      subst G;by_cases F:i=j
      .subst F;exact C.rf _
      .have:=b i (j - 1) #[0] #[0];rw[show lo+_=lo+j - 1 by lia]at this;exact C.tr _ _ _ N this
    .by_cases X:k=lo+x
     .subst X;by_cases cl:l=lo+x
      .subst cl;exact C.rf _
      .exact C.tr _ _ _ N (w _ _ #[0] #[0] #[0] #[0])
     .by_cases cl:l=lo+x
      .subst cl;exact C.tr _ _ _ (w k _ #[0] #[0] #[0] #[0]) P
      .exact w _ _ #[0] #[0] #[0] #[0]
 .rintro c q ⟨e,rfl,u,b,o,w⟩;rw[show max a n=n by lia]at b o w ⊢;exact hq n e q u H (à _) b o w
theorem Fy(C:Cmp M A E s kd D lt)(a: ∀x,x∈a₀.toList->D x)(h:SB a₀ kd pd f lo st)(b:lo+n<=a₀.size)(v:m+1<=n)(hs:Dn lt d (arrOf st) lo (m+1))
  (hq: ∀m j,SB a₀ kd pd f lo j->1<=m->m<=n->Up lt d (arrOf j) lo m->Q (some m) j):wpS M A E s (V4 lo m n) Q st:=by
 refine wpS_bind (ZJ ?_);refine wpS_bind (Wh C a h b #[0] v hs λk e j c y u q B w=>?_);by_cases o:e>0
 .rw[iP o];exact wpS_bind (VW (Ot C a (c.rev #[0] #[0]) b #[0] u (q.mirror C c #[0] w) hq))
 .rw[iN o];exact Ot C a c b #[0] u q hq
theorem Wi(C:Cmp M A E s kd D lt)(o: ∀x,x∈a₀.toList->D x)(h:SB a₀ kd pd f lo st)(v:lo+n<=a₀.size)(K:1<=n)
  (hq: ∀m q,SB a₀ kd pd f lo q->1<=m->m<=n->Up lt d (arrOf q) lo m->Q (some m) q):wpS M A E s (countRun' lo n) Q st:=by
 rw[RJ];refine wpS_bind (Fx (d:=d) C o h v (à 1) K (λi j b G=>by rw[show i=j by lia];exact C.rf _) λm H I hs y=>?_);by_cases u:m=n
 .rw[iP (by simpa using u)];exact wpS_pure (hq m st h H I hs)
 .rw[iN (by simpa using u)];have c:=y.resolve_left u;by_cases B:m>1
  .rw[iP B];refine wpS_bind (HB (d:=d) C h o #[0] #[0] ?_)
   cases N:lt _ _ with
   |true=>exact wpS_pure (hq m st h H I hs)
   |false=>
    have all:zDQ lt d (arrOf st) lo (lo+m):=by intro k l T S P U;have F:=hs 0 (l - lo) #[0] #[0];have J:=hs (k - lo) (m - 1) #[0] #[0];rw[show lo+0=lo by lia,show lo+_=l by lia]at F;rw[show lo+_=k by lia,show lo+_=lo+m - 1 by lia]at J;exact C.tr _ _ _ J (C.tr _ _ _ N F)
    have L:Dn lt d (arrOf st) lo (m+1):=by
     intro i j b G;by_cases O:j<m
     .exact all _ _ #[0] #[0] #[0] #[0]
     .have w:j=m:=by lia
      subst w;by_cases a:i=j
      .subst a;exact C.rf _
      .exact C.tr _ _ _ (C.as _ _ c) (all _ _ #[0] #[0] #[0] #[0])
    dsimp only;exact wpS_bind (VW (Fy C o (h.rev (à _) #[0]) v #[0] (L.mirror C h #[0] all) hq))
  .rw[iN B];have:m=1:=by lia
   subst this;refine Fy C o h v #[0] (λi j b G=>?_) hq;by_cases a:i=j
   .subst a;exact C.rf _
   .rw[show i=0 by lia,show j=1 by lia];exact C.as _ _ c
theorem Wj(C:Cmp M A E s kd D lt)(L: ∀x,x∈a₀.toList->D x)(h:SB a₀ kd pd f lo st)(Y:lo+n<=a₀.size)(N:ok<=n)(hs:Up lt d (arrOf st) lo ok)
  (hq: ∀m,SB a₀ kd pd f lo m->Up lt d (arrOf m) lo n->Q true m):wpS M A E s (binarySort' lo n ok) Q st:=by
 rw[LT];unfold zDP
 refine wpS_bind (wpS_mono (wpS_forRange (I:=λk c m=>c=(none,())/\SB a₀ kd pd f lo m/\Up lt d (arrOf m) lo (min k n))
  (Q:=λc m=>c=(none,())/\SB a₀ kd pd f lo m/\Up lt d (arrOf m) lo n) ?_ ?_ ?_) ?_)
 .rintro k c m S O ⟨rfl,u,a⟩;rw[show min k n=k by lia]at a;unfold binI
  refine wpS_bind (wpS_mono (wpS_forRange (I:=λx c b=>b=m/\ ∃l r,c=(none,l,r)/\l<=r/\r<=k/\r - l<=k - x/\
    (∀i,i<l->Le lt (Kx d (arrOf m) (lo+i)) (Kx d (arrOf m) (lo+k)))/\(∀i,r<=i->i<k->Le lt (Kx d (arrOf m) (lo+k)) (Kx d (arrOf m) (lo+i))))
   (Q:=λc b=>b=m/\ ∃l r,c=(none,l,r)/\l<=k/\
    (∀i,i<l->Le lt (Kx d (arrOf m) (lo+i)) (Kx d (arrOf m) (lo+k)))/\(∀i,l<=i->i<k->Le lt (Kx d (arrOf m) (lo+k)) (Kx d (arrOf m) (lo+i)))) ?_ ?_ ?_) ?_)
  .rintro x c b _ W ⟨rfl,l,r,rfl,H,v,T,o,q⟩;dsimp only;by_cases F:l>=r
   .rw[iP F];have:l=r:=by lia
    subst this;exact wpS_pure ⟨rfl,l,l,rfl,v,o,q⟩
   .rw[iN F];refine wpS_bind (HB (d:=d) C u L #[0] #[0] ?_)
    cases K:lt _ _ with
    |true=>exact wpS_pure {rfl,l,_,rfl,by lia,by lia,by lia,o,λi G J=>C.tr _ _ _ (C.as _ _ K) (a _ _ G J)}
    |false=>exact wpS_pure {rfl,_,r,rfl,by lia,by omega,by lia,λi G=>C.tr _ _ _ (a i _ #[0] #[0]) K,q}
  .rintro c b ⟨rfl,l,r,rfl,H,v,T,o,q⟩;have:l=r:=by lia
   subst this;exact⟨rfl,l,l,rfl,v,o,q⟩
  .exact{rfl,0,k,rfl,by lia,by lia,by lia,λi hi=>by lia,λi G J=>by lia}
  .rintro c b ⟨rfl,l,r,rfl,U,o,q⟩;dsimp only;rw[moveDown'_eq];have B:lo+k<(arrOf b).size:=by rw[u.size];lia
   refine wpS_bind (wpS_modify (wpS_pure {rfl,?_,?_}))
   .exact u.bub #[0] #[0]
   .rw[show min _ n=k+1 by lia];intro i j y X;show Le lt _ _;rw[SW B #[0],SW B #[0],show lo+k - _=lo+l by omega];have w: ∀i,1<=i->lo+i - 1=lo+(i - 1):=λi hi=>by lia
    repeat' split
    all_goals first
     |(exfalso;lia)
     |exact C.rf _
     |exact o _ #[0]
     |(rw[w _ #[0]];exact q _ #[0] #[0])
     |exact q _ #[0] #[0]
     |exact a _ _ #[0] #[0]
     |(rw[w i #[0]];exact a _ _ #[0] #[0])
     |(rw[w j #[0]];exact a _ _ #[0] #[0])
     |(refine qq (w i #[0]) (qq (w j #[0]) ?_);exact a _ _ #[0] #[0])
     |(rw[w i #[0]];exact o _ #[0])
 .rintro c m ⟨P,u,a⟩;refine{P,u,?_};rwa [show min _ n=n by lia]at a
 .refine{rfl,h,λi j y X=>?_};by_cases G:ok=0
  .rw[show i=j by lia];exact C.rf _
  .exact hs i j y #[0]
 .rintro c m ⟨rfl,u,a⟩;exact wpS_pure (hq m u a)
end
end Srt
namespace Srt
open PySem PyProof.Rows
section
variable{kd:SortKind}{lt:↑16}{a₀:V}{pd:Array (Nat×Nat×Nat)}{lo:Nat}{st:SortSt}
def Up.sl(h:Up lt d v lo n):SL lt v.toList lo n:=by
 intro i j x y o q c m;have a:Kx d v (lo+i)=x:=by unfold Kx;rw[<-ñ,c];rfl
 have b:Kx d v (lo+j)=y:=by unfold Kx;rw[<-ñ,m];rfl
 have:=h i j o q;rw[a,b]at this;exact this
theorem SL.pw(h:SL lt l lo n):((l.drop lo).take n).Pairwise (Le lt):=by rw[List.pairwise_iff_getElem];intro i j hi b a;rw[lT]at hi b;rw[List.getElem_take,List.getElem_take,getElem_drop,getElem_drop];exact h i j _ _ #[0] #[0] (gE _) (gE _)
structure Out(a₀:V)(kd:SortKind)(lt:Keyed->Keyed->Bool)(n:Nat)(st:SortSt):Prop where
 pm:(arrOf st).toList.Perm a₀.toList
 kind:kindOf st=kd
 fl:failedOf st=none
 pd: ∃w,pendingOf st=#[(0,n,w)]
 so:(arrOf st).toList.Pairwise (Le lt)
end
end Srt
namespace Srt
open PySem PyProof.Rows
abbrev U2:=Option Unit×Nat
abbrev U1:=Option Unit×Unit
def psh(lo n:Nat):SM (ForInStep U2):=(modify λs=>setPending s ((pendingOf s).push (lo,n,0))) >>= λ_=>pure (.yield (none,lo+n))
def nxt(N lo n:Nat):SM (ForInStep U2):=get >>= λst=>match (pendingOf st).back? with
 |some (a,b,_)=>(forIn [0:N] ((none,()):U1) λ_ _=>get >>= λst=>(match (if(pendingOf st).size>1 then(pendingOf st)[(pendingOf st).size - 2]? else none)with
   |some (_,_,z)=>if z<=power' N (2 * a+b) (2 * a+b+b+n) N then pure (.done (none,()))else mergeAt' ((pendingOf st).size - 2) >>= λq=>if(!q)=true then pure (.done (some (),()))else pure (.yield (none,()))
   |_=>pure (.done (none,())))) >>= λc=>(match c.1 with
  |some r=>pure (.done (some r,lo))
  |none=>(modify λs=>setPending s ((pendingOf s).modify ((pendingOf s).size - 1) λ(u,v,_)=>(u,v,power' N (2 * a+b) (2 * a+b+b+n) N))) >>= λ_=>psh lo n)
 |_=>psh lo n
def runs(N r:Nat):SM U2:=forIn [0:N] ((none,0):U2) λ_ c=>if c.2>=N then pure (.done (none,c.2))else countRun' c.2 (N - c.2) >>= λo=>match o with
 |some m=>if m<r then liftM (rule "list.sort.binary-insertion") >>= λ_=>binarySort' c.2 (min (N - c.2) r) m >>= λq=>if(!q)=true then pure (.done (some (),c.2))else nxt N c.2 (min (N - c.2) r)
   else nxt N c.2 m
 |_=>pure (.done (some (),c.2))
def zDR(N:Nat):SM U1:=forIn [0:N] ((none,()):U1) λ_ _=>get >>= λst=>if(pendingOf st).size<=1 then pure (.done (none,()))else
 mergeAt' (if Option.any (λx=>decide (x<((pendingOf st)[(pendingOf st).size - 2+1]?).elim 0 λx=>x.2.1)) (if(pendingOf st).size - 2>0 then Option.map (λx=>x.2.1) (pendingOf st)[(pendingOf st).size - 2 - 1]? else none)=true
  then(pendingOf st).size - 2 - 1 else(pendingOf st).size - 2) >>= λq=>if(!q)=true then pure (.done (some (),()))else pure (.yield (none,()))
def sRun:SM Unit:=get >>= λst=>runs (arrOf st).size (minRun' (arrOf st).size (arrOf st).size 0) >>= λc=>match c.1 with
 |some r=>pure r
 |none=>zDR (arrOf st).size >>= λc=>match c.1 with
  |some r=>pure r
  |none=>pure ()
section
variable{pd:Array (Nat×Nat×Nat)}{lo:Nat}{st:SortSt}
theorem SB.free(h:SB a₀ kd pd f lo st)(g):SB a₀ kd pd' g 0 (setPending st pd'):={h.pm,h.kind,h.fl,rfl,λ_ hi=>by lia}
def zFY(a₀:V)(lt:↑16)(st:SortSt):Prop:=(arrOf st).toList.Perm a₀.toList/\failedOf st=none/\(arrOf st).toList.Pairwise (Le lt)
end
end Srt
namespace Srt
open PySem PyProof.Rows
section
variable{st:SortSt}
theorem Ou(a:2<=N)(h:N<64):minRun' N N 0=N:=by
 obtain⟨g,rfl⟩: ∃g,N=g+1:={N - 1,by lia}
 rw[minRun'_succ,iP h]
def zFZ(a₀:V)(kd:SortKind)(lt:↑16)(st:SortSt):Prop:=SB a₀ kd #[(0,a₀.size,0)] a₀ 0 st/\SL lt (arrOf st).toList 0 a₀.size
theorem Ov(C:Cmp M A E s kd D lt)(F: ∀x,x∈a₀.toList->D x)(d:Keyed)(S:2<=a₀.size)(h:SB a₀ kd #[] a₀ 0 st)
  (hq: ∀j,zFZ a₀ kd lt j->Q (none,a₀.size) j):wpS M A E s (runs a₀.size a₀.size) Q st:=by
 refine wpS_forRange (I:=λx c j=>(x=0/\c=_/\SB a₀ kd #[] a₀ 0 j)\/(1<=x/\c=(none,a₀.size)/\zFZ a₀ kd lt j)) ?_ ?_ (.inl ⟨rfl,rfl,h⟩)
 .rintro x c j _ O (⟨rfl,rfl,J⟩|⟨H,rfl,y⟩)
  .dsimp only;rw[iN #[0]]
   have B: ∀a,SB a₀ kd #[] a₀ 0 a->Up lt d (arrOf a) 0 a₀.size-> ∀R:ForInStep U2->SortSt->Prop,(∀j,zFZ a₀ kd lt j->R (.yield (none,a₀.size)) j)->wpS M A E s (nxt a₀.size 0 a₀.size) R a:=by
    intro a b o R P;refine wpS_bind (wpS_get ?_);have L:(pendingOf a).back? =none:=by rw[b.pd];rfl
    rw[L];dsimp only;refine (wpS_bind (wpS_modify (wpS_pure ?_)));have e:(pendingOf a).push (0,a₀.size,0)=#[(0,a₀.size,0)]:=by rw[b.pd];rfl
    rw[e,Nat.zero_add];exact P _ {b.free a₀,o.sl}
   refine wpS_bind (Wi (d:=d) C F J #[0] #[0] λm a b K N o=>?_);dsimp only;by_cases G:m<a₀.size
   .rw[iP G];refine wpS_bind (ZJ ?_);rw[Nat.sub_zero,Nat.min_self];refine wpS_bind (Wj C F b #[0] #[0] o λu w v=>?_);rw[iN (by simp)];exact B u w v _ λ_ q=>.inr {by lia,rfl,q}
   .rw[iN G];obtain rfl:m=a₀.size:=by lia
    exact B a b o _ λ_ q=>.inr {by lia,rfl,q}
  .dsimp only;rw[iP (à _)];exact wpS_pure (hq j y)
 .rintro c j (⟨O,_⟩|⟨_,rfl,y⟩)
  .lia
  .exact hq j y
theorem Ow(b:2<=a₀.size)(h:zFZ a₀ kd lt st)(a: ∀j,zFY a₀ lt j->Q (none,()) j):wpS M A E s (zDR a₀.size) Q st:=by
 have hd:zFY a₀ lt st:={Array.perm_iff_toList_perm.mp h.1.pm,h.1.fl,by have:=h.2.pw;rwa [drop_zero,ĥ (by rw[î,h.1.size];lia)]at this}
 refine wpS_forRange (I:=λ_ c j=>c=_/\j=st) ?_ ?_ ⟨rfl,rfl⟩
 .rintro x c j _ _ ⟨rfl,rfl⟩;refine wpS_bind (wpS_get ?_);rw[iP (by rw[h.1.pd];simp)];exact wpS_pure (a _ hd)
 .rintro c j ⟨rfl,rfl⟩;exact a _ hd
theorem VX(C:Cmp M A E s kd D lt)(o: ∀x,x∈(arrOf st).toList->D x)(d:Keyed)(b:2<=(arrOf st).size)(a:(arrOf st).size<64)(q:kindOf st=kd)(w:pendingOf st=#[])(u:failedOf st=none)
   (hq: ∀j,zFY (arrOf st) lt j->Q () j):wpS M A E s sortRuns' Q st:=by
 rw[(show sortRuns'=sRun by kernel_rfl)];refine wpS_bind (wpS_get ?_);rw[Ou b a];refine wpS_bind (Ov C o d b {Array.Perm.refl _,q,u,w,λ_ hi=>by lia} λm v=>?_);refine wpS_bind (Ow b v λc hd=>?_);exact wpS_pure (hq c hd)
end
end Srt
namespace Srt
open PySem PyProof.Rows
abbrev Rn:=Nat×Nat×Nat
def RunsOk(lt:↑16)(l:List Keyed):Nat->List Rn->Nat->Prop
 |p,[],q=>p=q
 |p,r::rs,q=>r.1=p/\1<=r.2.1/\SL lt l p r.2.1/\RunsOk lt l (p+r.2.1) rs q
section
theorem RunsOk.le: ∀{rs}{p q},RunsOk lt l p rs q->p+↑4<=q
 |[],p,q,h=>by cases h;exact à _
 |r::rs,p,q,h=>by
  have:=RunsOk.le h.2.2.2;have:=h.2.1;rw[lC]
  lia
end
section
variable{kd:SortKind}{lt:↑16}{a₀:V}{st:SortSt}
structure ST(a₀:V)(kd:SortKind)(lt:Keyed->Keyed->Bool)(rs:List Rn)(q:Nat)(st:SortSt):Prop where
 pm:(arrOf st).toList.Perm a₀.toList
 kind:kindOf st=kd
 fl:failedOf st=none
 pd:pendingOf st=rs.toArray
 ok:RunsOk lt (arrOf st).toList 0 rs q
 le:q<=a₀.size
def ST.size(h:ST a₀ kd lt rs q st):(arrOf st).size=a₀.size:=by have:=h.pm.length_eq;simpa using this
end
end Srt
namespace Srt
open PySem PyProof.Rows
noncomputable def kStep(a f:Addr)(b:B0)(ks x:ō):Sem (ForInStep PUnit):=(call (.ref f) [x]).attempt >>= λr=>match r with
 |.ok k=>Builtin.List.listUpdate ks (λv=>v.push k) >>= λ_=>pure (.yield ⟨⟩)
 |.error e=>do
  rule "list.sort.key-raised"
  let m <-Builtin.List.listItems ks
  Builtin.List.listUpdate ks λ_=>#[]
  letGo m.toList.reverse [e]
  Builtin.List.listUpdate (.ref a) λ_=>b
  let _:PUnit <-throw e
  pure (.yield ⟨⟩)
section
variable{prog:Ŏ}{w:World}{A:Around}{E:VP}
structure Kd(prog:Ŏ)(w:World)(A:Around)(E:VP)(a KS:Addr)(e1:Nat)(vs:A0)(P:PySem.Fin->Ō->Prop)(s2:Ō):Prop where
 go: ∃(keys:A0)(n:Nat)(kd:SortKind)(D:Keyed->Prop)(lt:↑16),s2.heap.get? a=some (seqObj "list" #[] e1)/\s2.heap.get? KS=some (seqObj "list" keys.toArray n)/\keys.length=↑9/\
  (2<=↑9->wpAny ↑6 A (keyKind' keys.toArray) (λk s'=>s'=s2/\k=kd) E s2/\Cmp ↑6 A E s2 kd D lt/\ ∀p,p∈keys.zip vs->D p)/\
  ∀out:List Keyed,out.Perm (keys.zip vs)->out.Pairwise (Le lt)->P (.done (.ret .none)) {s2 with heap:=(s2.heap.update KS (Obj.mapSeq λ_=>#[])).update a (Obj.mapSeq λ_=>(out.map (·.2)).toArray)}
end
end Srt
namespace Srt
open PySem PyProof.Rows
section
variable{s:Ō}
def sort_keyedS(C:s.heap.get? a=some (seqObj "list" vs.toArray n0))(hl:↑9<64)
  (hk: ∀G,(s.heap.update a (Obj.mapSeq λ_=>#[])).get? a=some (seqObj "list" #[] G)->wpAny ↑6 A (forIn vs PUnit.unit λx _=>kStep a f vs.toArray (.ref (↑0+1)) x)
   (λ_ I=>a≠↑0+1->Kd prog w A E a (↑0+1) G vs P I) E {s with heap:=((s.heap.update a (Obj.mapSeq λ_=>#[])).push (seqObj "tuple" vs.toArray 0)).push (seqObj "list" #[] 0)}):
  wpAny ↑6 A (Builtin.«list.sort» {[.ref a],[("key",.ref f)]}) P E s:=by
 unfold Builtin.«list.sort»;dsimp only;refine qq (iN (by simp)) (qq (iN (by simp)) ?_);have G:List.lookup (Str.ofString "key") [(Str.ofString "key",Value.ref f)]=some (.ref f):=by simp[List.lookup]
 have e2:List.lookup (Str.ofString "reverse") [(Str.ofString "key",Value.ref f)]=none:=by
  have:(Str.ofString "reverse"==Str.ofString "key")=false:=by decide+kernel
  simp[List.lookup,this]
 rw[forIn_cons,G,e2];refine wB (wB ?_);dsimp only;refine qq (iN (by simp)) ?_;refine wP ?_;dsimp only;refine qq forIn_nil ?_;refine wP ?_;refine wB (wP ?_);have W:a<s.heap.objs.size:=â C;refine wB (listItems_at C rfl ?_);refine wB (listUpdate_at C rfl ?_);obtain⟨q,U⟩: ∃q,(s.heap.update a (Obj.mapSeq λ_=>#[])).get? a=some (seqObj "list" #[] q):={_,get?_update_seq C (λ_=>#[])}
 dsimp only;refine wB (seqEpoch_at U rfl ?_);refine wB (wpAny_newTuple ?_);refine wB (wpAny_newList ?_);refine ð ?_;refine qq (iP (by rfl)) ?_;refine wB (Ě ?_);have K:((s.heap.update a (Obj.mapSeq λ_=>#[])).push (seqObj "tuple" vs.toArray 0)).objs.size=↑0+1:=by rw[size_push',Heap.size_update]
 dsimp only;rw[K,List.forIn_toArray];refine wB (þ (hk q U) (λu I h2=>?_) λ_ _ e=>e);refine((h2 (å (ĸ W))).go).r λb n kd D lt g1 O H X g5=>?_;have M:a≠↑0+1:=å (ĸ W);refine qq (iP (by rfl)) ?_;refine wB (listItems_at O rfl ?_);refine qq (iN (by simp)) ?_
 have v: ∀st:SortSt,failedOf st=none->(arrOf st).toList.Perm (b.zip vs)->(arrOf st).toList.Pairwise (Le lt)->
   wpAny ↑6 A (do
    Builtin.List.listUpdate (.ref (↑0+1)) λ_=>#[]
    letGo ((arrOf st).map (·.1)).toList (failedOf st).toList
    let e <-seqEpoch a
    Builtin.List.listUpdate (.ref a) λ_=>(arrOf st).map (·.2)
    if(e !=q)=true then rule "list.sort.modified" >>= λ_=>raiseErrorWords "ValueError" "list modified during sort" >>= λ(_:Unit)=>ret .none else ret .none) P E I:=by
  intro st hf B hs;refine wB (listUpdate_at O rfl ?_ (by refine qq sA (qq H ?_);have:=ý;lia));refine wB (wpAny_letGo ?_);have m:(I.heap.update (↑0+1) (Obj.mapSeq λ_=>#[])).get? a=some (seqObj "list" #[] q):=by rw[õ _ _ (Ne.symm M)];exact g1
  refine wB (seqEpoch_at m rfl ?_);have o:((arrOf st).map (·.2)).size<=sizeLine+1:=by rw[Array.size_map, <-î,B.length_eq,ļ,H];have:=ý;lia
  refine wB (listUpdate_at m rfl ?_ (hsz2:=o));refine qq (iN (by simp)) ?_;have Z:(arrOf st).map (·.2)=((arrOf st).toList.map (·.2)).toArray:=by rw[<-Array.toList_map]
  refine qq Z ?_;exact wP (g5 _ B hs)
 by_cases c:vs.toArray.size<2
 .rw[iP c,iP c];refine wB (wP ?_);rw[StateT.run_pure];refine wB (wP ?_);refine qq (iP (by rfl)) ?_;have hz:(b.zip vs).length<=1:=by refine qq ļ (qq H ?_);simp at c;lia
  refine v (SortSt.mk' general' (b.toArray.zip vs.toArray) #[] 7 none) rfl ?_ ?_
  .show(b.toArray.zip vs.toArray).toList.Perm _;simp
  .show(b.toArray.zip vs.toArray).toList.Pairwise _;have:(b.toArray.zip vs.toArray).toList=b.zip vs:=by simp
   refine qq this ?_
   match b.zip vs,hz with
   |[],_=>exact .nil
   |[x],_=>exact List.pairwise_singleton _ _
   |x::y::r,h=>simp at h
 .rw[iN c,iN c];refine(X (by simp at c;lia)).f λk1 k2 k3=>?_;refine wB (þ k1 (λk s' L=>?_) λ_ _ e=>e);obtain⟨rfl,rfl⟩:=L;have J:(arrOf (SortSt.mk' k (b.toArray.zip vs.toArray) #[] 7 none)).toList=b.zip vs:=by show(b.toArray.zip vs.toArray).toList=_;simp
  have S:(arrOf (SortSt.mk' k (b.toArray.zip vs.toArray) #[] 7 none)).size=vs.length:=by rw[<-î,J,ļ,H,Nat.min_self]
  refine wB (þ (VX (st:=SortSt.mk' k (b.toArray.zip vs.toArray) #[] 7 none) k2 (λp B=>k3 p (by rw[J]at B;exact B)) (.none,.none) (by rw[S];simp at c;lia) (by rw[S];exact hl) rfl rfl rfl
   (Q:=λ_ j=>zFY (arrOf (SortSt.mk' k (b.toArray.zip vs.toArray) #[] 7 none)) lt j) λj h=>h) (λr s3 hr=>?_) λ_ _ e=>e)
  have⟨⟨⟩,j⟩:=r;refine hr.g λV Y T d3=>?_;cases V;dsimp only;refine qq (iP (by rfl)) ?_;have F:=v j T (by rw[<-J];exact Y) d3;have N:failedOf j=none:=T;unfold failedOf at N;simp only[failedOf]at F;rw[N]at F ⊢;exact F
end
end Srt
namespace Srt
open PySem PyProof.Rows
section
def wp_mapMA{α:Type}{f:α->Sem β}{g:α->β}{l:List α}(h: ∀x,x∈l->wpAny M A (f x) (λr j=>j=s/\r=g x) E s):wpAny M A (l.toArray.mapM f) (λr j=>j=s/\r=(l.map g).toArray) E s:=by rw[List.mapM_toArray];refine wB (þ ((show wpAny M A (l.mapM f) (λr j=>j=s/\r=l.map g) E s by
  induction l with
  |nil=>rw[List.mapM_nil];exact wP ⟨rfl,rfl⟩
  |cons x l ih=>
   rw[List.mapM_cons];refine wB (þ (h x mF0) (λr j a=>?_) λ_ _ e=>e);rw[a.1,a.2];refine wB (þ (ih λy b=>h y (mO _ b)) (λr j a=>?_) λ_ _ e=>e);rw[a.1,a.2];exact wP ⟨rfl,rfl⟩)) (λr j a=>?_) λ_ _ e=>e);obtain⟨rfl,rfl⟩:=a;exact wP ⟨rfl,rfl⟩
def TupAt(h:Heap)(a:Addr)(b:A0):Prop:= ∃o n,h.get? a=some o/\o.cls=.type "tuple"/\o.data=.seq b.toArray n
def ZK(h:TupAt s.heap a its):wpAny M A (firstOfTuple' (.ref a)) (λr j=>j=s/\r=its[0]?) E s:=by refine h.b λo n b m c=>?_;refine wB (Č (Z3 o b m) ?_);refine wB (listItems_at b c ?_);exact wP {rfl,by simp}
def ON(w:l≠[])(h: ∀x,x∈l-> ∃a j,x=.ref a/\TupAt s.heap a j):wpAny M A (oneTypeOnly' l.toArray) (λr m=>m=s/\r=some (.type "tuple")) E s:=by
 refine wB (þ (wp_mapMA (g:=λ_=>Value.type "tuple") λx u=>?_) (λr m v=>?_) λ_ _ e=>e)
 .obtain⟨a,j,rfl,o,n,y,q,B⟩:=h x u;exact Č (Z3 o y q) ⟨rfl,rfl⟩
 .obtain⟨rfl,rfl⟩:=v
  match l,w with
  |x::l,_=>
   have c:(List.map (λ_=>Value.type "tuple") (x::l)).toArray[0]? =some (Value.type "tuple"):=by simp
   have b:((List.map (λ_=>Value.type "tuple") (x::l)).toArray.all λx=>x==Value.type "tuple")=true:=by simp only[all_toArray,all_map,ü];intro _ _;rfl
   rw[c];dsimp only;rw[b];exact wP ⟨rfl,rfl⟩
def wp_kindT(H:keys≠[])(h: ∀x,x∈keys-> ∃a q b r j,x=.ref a/\TupAt s.heap a q/\q=.ref b::r/\TupAt s.heap b j):
  wpAny M A (keyKind' keys.toArray) (λk m=>m=s/\k=tuples' false) E s:=by
 have u: ∀x, ∃y:Option ō,x∈keys->(∃b j,y=some (.ref b)/\TupAt s.heap b j)/\ ∀M:Model,wpAny M A (firstOfTuple' x) (λr m=>m=s/\r=y) E s:=by
  intro x;by_cases c:x∈keys
  .refine(h x c).q λa q b r j I=>I.g λJ D K F=>?_;subst J;subst K;exact{some _,λ_=>{(ZX b j rfl F),λM=>ZK D}}
  .exact{none,λz=>absurd z c}
 let g:=λx=>Classical.choose (u x);have gs: ∀x,x∈keys->(∃b j,g x=some _/\TupAt s.heap b j)/\ ∀M:Model,wpAny M A _ (λr m=>m=s/\r=g x) E s:=λx c=>ā (u x) c;refine wB (þ (wp_mapMA λx c=>(gs x c).2 M) (λr m o=>?_) λ_ _ e=>e);obtain⟨rfl,rfl⟩:=o;rw[iP (by simp only[all_toArray,all_map,ü];intro x c;obtain⟨⟨b,j,e,_⟩,_⟩:=gs x c;show(g x).isSome=true;rw[e];rfl)];refine wB (Ě ?_);have v:(keys.map g).toArray.filterMap id=((keys.map g).filterMap id).toArray:=by simp
 rw[v];refine wB (þ (ON ?_ ?_) (λr m o=>?_) λ_ _ e=>e)
 .match keys,H,gs with
  |x::l,_,gs=>
   obtain⟨⟨b,j,e,_⟩,_⟩:=gs x mF0;rw[ç,e];simp
 .intro x c;refine(mem_filterMap.mp c).a λy C e=>?_;refine(mM.mp C).a λz G w=>?_;obtain⟨⟨b,j,B,t⟩,_⟩:=gs z G;have:some x=some (Value.ref b):=by rw[<-B,w];exact e.symm
  cases this;exact ZX b j rfl t
 .obtain⟨rfl,rfl⟩:=o;refine wP {rfl,?_};have:((some (Value.type "tuple")).any λx=>x !=Value.type "tuple")=false:=by rfl
  rw[this]
def wp_kindE(c:keys≠[])(h: ∀x,x∈keys-> ∃a,x=.ref a/\TupAt s.heap a []):
  wpAny M A (keyKind' keys.toArray) (λk j=>j=s/\k=oneType') E s:=by
 refine wB (þ (wp_mapMA (g:=λ_=>(none:Option ō)) λx m=>?_) (λr j b=>?_) λ_ _ e=>e)
 .refine(h x m).a λa o t=>?_;subst o;exact ZK t
 .obtain⟨rfl,rfl⟩:=b
  match keys,c,h with
  |x::l,c,h=>
   rw[iN (by simp)];refine wB (þ (ON c λx m=>let ⟨a,e,t⟩:=h x m;(ZX a ([]) e t)) (λr j b=>?_) λ_ _ e=>e);obtain⟨rfl,rfl⟩:=b;exact wP ⟨rfl,rfl⟩
end
end Srt
namespace Srt
open PySem PyProof.Rows
inductive LexS(A:Around)(s:Ō):List ō->List ō->Bool->Prop
 |nn:LexS A s [] [] false
 |nc (x xs):LexS A s [] (x::xs) true
 |cn (y ys):LexS A s (y::ys) [] false
 |eq {y x ys xs k}:SeqAt.EqAt A s y x true->LexS A s ys xs k->LexS A s (y::ys) (x::xs) k
 |ne {y x ys xs k}:SeqAt.EqAt A s y x false->(∀(prog:Ŏ)(w:World)(E Q:VP),Q (.bool k) s->wpAny (model prog w) A (richCompare .Lt y x) Q E s)->LexS A s (y::ys) (x::xs) k
section
theorem Wn(vs ws)(i)(a:LexS A s vs ws k):↑9+n=ws.length+m->
   wpAny ↑6 A (forIn ((vs.zip ws).zipIdx i) ((none,())) λz _=>eqBool z.1.1 z.1.2 >>= λe=>if(!e)=true then oneLt' (false&&z.2==0) z.1.1 z.1.2 >>= λr=>pure (.done (some r,()))else pure (.yield (none,())))
    (λr j=>j=s/\(r=(some k,())\/(r=(none,())/\k=decide (m<n)))) E s:=by
 induction a generalizing i with
 |nn=>intro h;rw[zip_nil_left,zipIdx_nil];exact wP {rfl,.inr {rfl,(dF0 (by simp at h;lia)).symm}}
 |nc x xs=>intro h;rw[zip_nil_left,zipIdx_nil];exact wP {rfl,.inr {rfl,(dT0 (by simp at h;lia)).symm}}
 |cn y ys=>intro h;rw[List.zip_nil_right,zipIdx_nil,forIn_nil];exact wP {rfl,.inr {rfl,(dF0 (by simp at h;lia)).symm}}
 |eq he hr ih=>
  intro h;rw[į,List.zipIdx_cons,forIn_cons];refine wB (wB (he prog w E _ ?_));exact wP (ih _ (by simpa using(by simp at h;lia)))
 |ne he hr=>
  intro h;refine wB (wB (he prog w E _ ?_));simp only[Bool.false_and];refine wB (wB (hr prog w E _ ((Ċ ?_))));exact wP (wP {rfl,.inl rfl})
theorem wp_keyLtT(u:TupAt s.heap l its)(q:TupAt s.heap b its2)(o:LexS A s its its2 k)(a:Q k s):
  wpAny ↑6 A (keyLt' (tuples' false) (.ref l) (.ref b)) Q E s:=by
 refine u.b λC G v _ c=>?_;refine q.b λD B j _ y=>?_;refine wB (listItems_at v c (wB (listItems_at j y ?_)));simp only[sA];refine wB (þ (Wn its its2 0 o (m:=its.length) (n:=its2.length) #[0]) (λr F h=>?_) λ_ _ e=>e);obtain⟨rfl,rfl|⟨rfl,e⟩⟩:=h
 .exact wP a
 .dsimp only;rw[<-e];exact wP a
def wp_lt{st:SortSt}(b:kindOf st=kd)(h: ∀ E  Q ,Q k s->wpAny ↑6 A (keyLt' kd x.1 y.1) Q E s)(a:Q (some k) st):
  wpS ↑6 A E s (lt' x y) Q st:=by
 rw[lt'_eq];refine wpS_bind (wpS_get ?_);rw[b];refine wpS_bind (wpS_lift (ċ (h _ _ {rfl,?_})));exact wpS_pure a
end
end Srt
namespace L2
namespace M
open PySem PySem.Spec PyProof.Rows
mutual
def OO:MV->Bool
 |.int _=>true
 |.str _=>true
 |.tup ds=>ZL ds
 |_=>false
def ZL:List MV->Bool
 |[]=>true
 |d::ds=>OO d&&ZL ds
end
def SX{α β:Type}{g:α->β}{p m:List β}(h:p.Perm m): ∀l:List α,l.map g=p-> ∃j:List α,j.Perm l/\j.map g=m:=by
 induction h with
 |nil=>intro l e;exact{l,.refl _,e}
 |cons x _ ih=>
  intro l e
  cases l with
  |nil=>cases e
  |cons a l=>
   injection e with e1 e2
   refine(ih l e2).a λj c u=>?_;exact{_,c.cons a,by rw[ç,e1,u]}
 |swap x y t=>
  intro l e
  match l,e with
  |a::b::l,e=>
   injection e with e1 e2
   injection e2 with e2 e3
   exact{_,.swap _ _ _,by rw[ç,ç,e1,e2,e3]}
 |trans _ _ ih1 ih2=>
  intro l e;refine(ih1 l e).a λq p1 o=>?_;refine(ih2 q o).a λv p2 s=>?_;exact{v,p2.trans p1,s}
section
def zDS(h:LexR A s xs ys k):Srt.LexS A s xs ys k:=by
 induction h with
 |nn=>exact .nn
 |nc x xs=>exact .nc x xs
 |cn x xs=>exact .cn x xs
 |eq a _ ih=>exact .eq a ih
 |ne a b=>exact .ne a b
inductive KindD:Bool->MV->Prop
 |t (es r):KindD true (.tup (.tup es::r))
 |e:KindD false (.tup [])
abbrev Ox(b:Bool):SortKind:=if b=true then tuples' false else oneType'
def FE(I:↑1)(d:Den X.K α H (.tup ds) x)(r:RelV x u): ∃a vs j,u=.ref a/\DenL X.K α H ds vs/\Vals vs j/\Srt.TupAt s.heap a j/\IsTup s.heap a j.toArray:=by refine(bG d).b λa vs k t l=>?_;subst k;subst r;refine(I.tuple t).c λj b pt _=>?_;obtain⟨o,c,q,n,m⟩:=id pt;exact Y4 a vs j rfl l b (Z2 o n c q m) pt
end
structure OrdD(S:Sto)(ks:Q0):Prop where
 any: ∀a,a∈ks-> ∀b,b∈ks-> ∃t,MF S zO a b=some t
 tr: ∀a,a∈ks-> ∀b,b∈ks-> ∀c,c∈ks->MF S zO b a=some false->MF S zO c b=some false->MF S zO c a=some false
 as: ∀a,a∈ks-> ∀b,b∈ks->MF S zO a b=some true->MF S zO b a=some false
section
def Wp(F:FnOk X.prog X.w X.K X.mg X.base rE k fa fd ps sp)(j:Room (k+2) X.A)(c:Binds X.K fd ps [])
  (I:↑1) (r:Vals vs us) (h:sp vs H Q E0):wpAny ↑5 X.A.in1.in1 (call (.ref fa) us) (EP X pins σ Q) E' s:=by
 have b:=c s us I.kIn (by rw[aN, <-r.length];exact F.len _ _ _ _ h);rw[aN]at b;refine wpAny_call (codeAny_mono (F.run X.A.in1.in1 X.stack s H {us,[]} us vs Q E0 j.in1.in1 I.env0.in1.in1 b r h) λr m a=>?_)
 cases r with
 |error e=>exact False.elim a
 |ok fl=>
  cases fl with
  |ret u=>exact I.after a
  |next=>exact False.elim a
  |brk=>exact False.elim a
  |cont=>exact False.elim a
def V6(w:Wd g α S H)(x:Ext α H α' H')(a:Wd g α' S H'):α'=α:=by obtain⟨t,e⟩:=x.pre;have c:=w.len;have b:=a.len;rw[e,lA]at b;have:t=[]:=ń.mp (by lia);rw[e,this,aN]
end
section
variable{ps:D0}
def SY(J:↑1)(f:rZ X pins H e)(w:X.s₀.heap.objs.size<=e)(y:s.heap.get? e=some (seqObj "list" its.toArray n))(D:Vals ys its)(hz:ys.length<=sizeLine):Inv X pins σ (yP H e (.lst ys)) s:=by
 refine{J.ok,J.os,J.bare,{J.base.keep,J.base.slot,λb a q n A=>?_,J.base.there,λb xs q=>?_,λb m u q=>?_,λb ps q=>?_},J.loc,J.cell,?_,λx c j=>?_,λp v=>?_,λb u q=>?_,J.len}
 .rw[zH λz=>(λo z=>absurd (ä (â z) w) (Į _)) a (by rw[<-z];exact q)];exact J.base.free b a q n A
 .rw[zH (zQ (J.base.tups b xs q) f.1)];exact J.base.tups b xs q
 .rw[zH (zQ (J.base.frzs b m u q) f.1)];exact J.base.frzs b m u q
 .rw[zH (zQ (J.base.tbls b ps q) f.1)];exact J.base.tbls b ps q
 .rw[zH (Ne.symm f.2.1)];exact J.free
 .unfold FzC;rw[zH (f.2.2.2.2.1 x c j)];exact J.freeC x c j
 .refine(J.pin p v).p λB n ne nf C=>?_;exact{B,by rw[zH (f.2.2.2.2.2 p v)];exact n,ne,nf,C}
 .by_cases z:b=e
  .subst z;rw[zM]at q;cases q;exact⟨hz,its,n,D,y⟩
  .rw[zH z]at q;exact(J.hok b u q).stay (λ_ _ _ r=>r) (λc r=>by rw[zH (zQ r f.1)];exact r) (λc xs r=>by rw[zH (zQ r f.1)];exact r) λc ob xs r=>by rw[zH (zQ r f.1)];exact r
def V7(I:↑1)(E:kds≠[])(c: ∀d,d∈kds->KindD b d)(G:DenL X.K α H kds kvs)(B:Vals kvs ks):
  wpAny ↑5 A (keyKind' ks.toArray) (λq N=>N=s/\q=Ox b) E' s:=by
 have ne:ks≠[]:=λz=>by have o:=B.length;have F:=G.length;rw[z]at o;exact E (ń.mp (by rw[<-F,o];rfl))
 have all: ∀u,u∈ks-> ∃d v,d∈kds/\Den X.K α H d v/\RelV v u:=by
  intro u m;obtain⟨i,hi⟩:=getElem?_of_mem m;have J:i<kvs.length:=by rw[B.length];exact(gS.mp hi).1
  refine(B.get (gE J)).a λT o r=>?_;rw[hi]at o;cases o;refine(G.get (gE J)).a λd F O=>?_;exact Z2 d _ (ò F) O r
 cases b with
 |true=>
  refine Srt.wp_kindT ne λu m=>?_;refine(all u m).b λd v md D r=>?_
  cases c d md with
  |t es rr=>
   refine(FE I D r).i λa vs C k l y t _=>?_;subst k;refine l.uncons.b λQ S U L _=>?_;subst U
   cases y with
   |@cons _ u1 _ us1 rv rr'=>
    refine(FE I L rv).i λP _ j V _ _ M _=>?_;subst V;exact Yi a _ P us1 j ⟨rfl,t,rfl,M⟩
 |false=>
  refine Srt.wp_kindE ne λu m=>?_;refine(all u m).b λd v md D r=>?_;cases c d md;refine(FE I D r).i λa vs C W l y t _=>?_;subst W;cases l.isnil;cases y;exact⟨a,rfl,t⟩
end
theorem Jk{ks a:A0}(b:ks.length=N)(c:a.length=N):(List.range N).map (λi=>((ks[i]?).getD .none,(a[i]?).getD .none))=ks.zip a:=by
 apply ŉ;intro i;rw[ë];by_cases hi:i<N
 .have e:(ks.zip a)[i]? =some (ks[i]'#[0],a[i]'#[0]):=by rw[List.getElem?_zip_eq_some];exact{gE _,gE _}
  rw[getElem?_range hi,e];show some ((ks[i]?).getD .none,(a[i]?).getD .none)=_;rw[gE #[0],gE #[0]];rfl
 .rw[Ĕ (by rw[ú];lia),Ĕ (by rw[ļ];lia)];rfl
theorem OP{β:Type}{l:List β}{d:β}{a:Db}(h: ∀i,i∈a->i<l.length):a.map (λi=>(l[i]?).getD d)=a.filterMap (l[·]?):=by
 induction a with
 |nil=>rfl
 |cons i a ih=>
  have hi:=h i mF0;rw[ç,ł (gE hi),ih λj b=>h j (mO _ b),gE hi];rfl
def Ga(S:Sto)(ds kds r:Q0):Prop:= ∃b:List Nat,b.Perm (List.range ↑11)/\b.Pairwise (λi j=> ∀a c,kds[i]? =some a->kds[j]? =some c->MF S zO c a=some false)/\r=b.filterMap (ds[·]?)
open Classical in
open Classical in
def Jl:bootBuiltins "sorted"=some (.builtin "sorted"):=by decide+kernel
section
variable{a:Expr}{e:Expr}{pos apos:Pos}
def Itq(K:O0)(k:Bool)(a:Addr):It:=if k=true then zFR K a else zFS K a
def iSeq(K:O0)(c:TE):TI:=λσ H R=>c σ H λx b=> ∃k a,x=.ref a/\(∃xs,QT k K b a xs)/\R (Itq K k a) b
def V8(C:PE X l tl):PI X tg l (iSeq X.K tl):=by
 intro pins s σ H R I h;refine xV (C pins s σ H _ I h) λv c ⟨x,m,I1,A,y⟩=>?_;refine y.b λk a e E q=>?_;obtain ⟨xs,w⟩:=E;subst e;subst A
 cases k with
 |true=>
  obtain⟨j,D,p,B⟩:=I1.list (show SqL X.K m a xs from w);refine ĭ p.isList ?_;refine Yq c.heap.objs.size ([c.heap.objs.size]) _ _ m rfl (I1.kept (t':=c.toks) λb o e=>hP0 _ e) (RY a _) (Z0 _ (á _ rfl) rfl rfl) (λb u=>?_) q;have e:b=c.heap.objs.size:=by simpa using u
  subst e;exact I1.fpOk (à _) (I1.hok.fresh (à _))
 |false=>
  obtain⟨j,D,p,B⟩:=I1.tuple (show SqT X.K m a xs from w);refine wpAny_pyIter_tuple (show c.heap.IsTuple a j.toArray from p) ?_;refine Yq c.heap.objs.size ([c.heap.objs.size]) _ _ m rfl (I1.kept (t':=c.toks) λb o e=>hP0 _ e) (NF a _) (Z0 _ (á _ rfl) rfl rfl) (λb u=>?_) q;have e:b=c.heap.objs.size:=by simpa using u
  subst e;exact I1.fpOk (à _) (I1.hok.fresh (à _))
def itQ(r:Er)(S:Sto):R Wk:=match srcOf S r with
 |some q=>.ok ⟨q.ds,q.gs⟩ S
 |none=>.no
def V9(v:zS X W iter f):NZ X W tg iter (λρ S=>(f ρ S).bind itQ):=by
 refine v.a λt v k=>?_;refine Z3 _ (V8 v) (λα ρ S σ H Rc Z sl q=>k α ρ S σ H _ Z sl (q.bind λu p Q E P e Y N T c=>?_))
 replace c:=c.shift Y
 unfold itQ at c;split at c
 .rename_i q e1;refine(IX N e1 T.1).b λs U V p1 o=>?_;subst V;refine Z2 q.k s rfl {_,(o.get _ _ _ p1).choose_spec.1} (c.here (u:=Itq X.K q.k s) N {λα S H=>U α S H,?_,p1,λE Q P b G B j x w hs=>o.stays _ _ _ _ _ _ j x w hs,o.st _ _ _ p1});intro i b G B j J;refine(o.get _ _ _ j).a λM O L=>?_;obtain⟨qk,I,qg⟩:=q
  cases qk with
  |true=>
   obtain⟨m,F⟩:=GR (X:=X) (a:=s) (ds:=I) i b G B (Z3 M O L) J;refine{λhi=>{(m hi).1,λx H' y=>?_},F};obtain⟨D,C,j3,A⟩:=(m hi).2 x H' y;obtain⟨rfl,_⟩:=y;exact⟨D,C,j,A⟩
  |false=>
   obtain⟨m,F⟩:=Fe (X:=X) (a:=s) (ds:=I) i b G B (Z3 M O L) J;refine{λhi=>{(m hi).1,λx H' y=>?_},F};obtain⟨D,C,j3,A⟩:=(m hi).2 x H' y;obtain⟨rfl,_⟩:=y;exact⟨D,C,j,A⟩
 .exact c.elim
theorem DenL.eraseIdx{K:O0}: ∀{ds}{vs} n ,DenL K α H ds vs->DenL K α H (ds.eraseIdx n) (vs.eraseIdx n)
 |[],_,_,q=>by rw[q.isnil];exact yA
 |d::ds,_,0,q=>by refine q.uncons.b λv r b _ l=>?_;subst b;exact l
 |d::ds,_,n+1,q=>by refine q.uncons.b λv r j a l=>?_;subst j;exact zT a (DenL.eraseIdx n l)
def Jm(p:Er)(rs:List Er)(S:Sto):R Er:=match p,rs with
 |.val (.loc l),[.val (.int i)]=>match S[l]? with
  |some (.lst ds)=>if -(2 ^ 63)<=i/\i<2 ^ 63 then match QR ds.length i with
   |some j=>match ds[j]? with
    |some d=>.ok (.val d) (S.set l (.lst (ds.eraseIdx j)))
    |none=>.no
   |none=>.no
   else .no
  |_=>.no
 |_,_=>.no
def W1:YV X W Mj Jm:=by
 intro p rs x vs α S M H Q D c G A L b;unfold Jm at b;split at b
 .rename_i l i;refine(bV A).a λa k h=>?_;subst k;refine(OA L).a λv N F=>?_;subst N;cases yM F;refine(c.of h).a λob I J=>?_;rw[I]at b
  cases ob with
  |lst ds=>
   refine J.a λw q m=>?_;dsimp only at b;split at b
   .rename_i u;split at b
    .rename_i j K;split at b
     .rename_i d B;refine(m.at B).a λy E C=>?_;have s:=c.writex h (Lm q) (o:=.lst (w.eraseIdx j));refine Yi a w i j y {rfl,rfl,q,u.1,u.2,(by rw[m.length];exact(UN K).1),E,?_};exact(b.shift (G.trans s)).val (c.write h (Lm q) (Z3 _ zM ((m.eraseIdx j).ext s))) (C.ext s)
     .exact b.elim
    .exact b.elim
   .exact b.elim
  |dic _=>exact b.elim
  |ins _ _=>exact b.elim
  |rcd _ _=>exact b.elim
  |fdc _=>exact b.elim
 .exact b.elim
def W2(D:zS X W a f)(K:KQ X W (e::es) af)
  (hbase:attributeBase a "pop" X.env (eval a X.env)=eval a X.env:=by rfl)
  (hfew:((backTo pos (starEach (e::es) X.env)).all (λx=>!x.1)&&(backToKw pos (keywordEach [] X.env)).all (λx=>x.1.isSome)
   &&decide ↑3)=true:=by rfl)
  (hline:(apos.endLine==pos.line)=true:=by rfl) (hs:q9 X e es:=by rfl) (hplain:Q2 X pos es:=by rfl):
  zS X W (.Call (.Attribute a "pop" apos) (e::es) [] pos) (λρ S=>(f ρ S).bind λp j=>if wZ p j=true then(af ρ j).bind λrs S2=>Jm p rs S2 else .no):=
 UZ PySem.F.plainAttrs_list PySem.F.slot_list_pop PySem.F.type_list_pop (by
   intro pins s σ H x vs v M Q I G B h;refine h.q λl xs i k y N=>N.t λO P m L E A C q=>?_;subst O;subst P;subst G;refine B.one.a λu T o=>?_;subst T;obtain⟨t,rfl⟩:=o;obtain⟨z,b,n,r,J,e⟩:=I.lstM m;refine(r.get C).a λw hw c=>?_
   refine ģ F.slot_list_pop {_,e,rfl} F.entry_list_pop (F.args_list_pop_2 _ _)
    (MeetsSeq.list_pop_at l b.toArray n i t k w (fitsIndex_both L E) (by refine qq sA (qq J.symm ?_);exact A) (by refine qq ñ.symm ?_;exact hw) (by refine qq sA ?_;lia)) {e,?_}
   refine Z2 y _ (I.lset (its':=b.eraseIdx k) m e ?_ (r.eraseIdx k) ?_) c q
   .show b.toArray.eraseIdxIfInBounds k=(b.eraseIdx k).toArray;rw[List.eraseIdxIfInBounds_toArray]
   .have:=SH xs k;lia) W1 Cq D K hbase hfew hline hs hplain
end
section
variable{X:Cx}{a o i:Expr}
noncomputable def AD(kvs:List (Key×V))(k:Key)(v:V):List (Key×V):=if(kvs.any λa=>decide (a.1=k))=true then kvs.map (λa=>if a.1=k then(a.1,v)else a)else kvs++[(k,v)]
def HC(kvs)(k)(v):(AD kvs k v).length<=kvs.length+1:=by
 unfold AD;split
 .rw[lM];exact le_succ _
 .rw[lA];exact à _
def Wq(r:KV kvs vs)(k:Key)(a:RelV y u):KV (kvs.map λj=>if j.1=k then(j.1,y)else j) (vs.map λj=>if j.1=k then(j.1,u)else j):=by
 induction r with
 |nil=>exact .nil
 |@cons p q ps qs h t ih=>
  rw[ç,ç];refine .cons ?_ ih;by_cases e:p.1=k
  .rw[iP e,iP (h.1.symm.trans e)];exact{h.1,a}
  .rw[iN e,iN λz=>e (h.1.trans z)];exact h
def Wr(r:KV kvs vs){q:Key×ō}(h:p.1=q.1/\RelV p.2 q.2):KV (kvs++[p]) (vs++[q]):=by
 induction r with
 |nil=>exact .cons h .nil
 |cons h' t ih=>exact .cons h' ih
def Cv(r:KV kvs vs)(k)(b:RelV y u):KV (AD kvs k y) (stored vs k u):=by
 unfold AD stored;rw[(show (kvs.any λa=>decide (a.1=k))=vs.any λa=>decide (a.1=k) by
   induction r with
   |nil=>rfl
   |cons h t ih=>rw[List.any_cons,List.any_cons,ih,h.1])];by_cases e:(vs.any λa=>decide (a.1=k))=true
 .rw[iP e,iP e];exact Wq r k b
 .rw[iN e,iN e];exact Wr r ⟨rfl,b⟩
def VZ{a b:Key}(h:KeyD k a)(h':KeyD k b):a=b:=by
 cases k with
 |int i=>exact Eq.trans h h'.symm
 |str x=>exact Eq.trans h h'.symm
 |_=>exact False.elim h
def OQ{a:Key}(h:KeyD k a)(h':KeyD k' a):k=k':=by
 cases k with
 |int i=>
  subst h
  cases k' with
  |int j=>have b:(Sum.inl i:Key)=.inl j:=h';cases b;rfl
  |str y=>have b:(Sum.inl i:Key)=.inr _:=h';cases b
  |_=>exact False.elim h'
 |str x=>
  subst h
  cases k' with
  |int j=>have b:(Sum.inr _:Key)=.inl j:=h';cases b
  |str y=>
   have b:=h';injection b with b
   rw[MD b]
  |_=>exact False.elim h'
 |_=>exact False.elim h
def Oz(q:DenK X.K α H kvs ks)(b:KeyD k k')(hd:Den X.K α H d v):DenK X.K α H (kvs.map λp=>if p.1=k then(p.1,d)else p) (ks.map λj=>if j.1=k' then(j.1,v)else j):=by
 induction q with
 |nil=>exact .nil
 |@cons c c' _ _ _ _ hc a l ih=>
  rw[ç,ç];by_cases h:c=k
  .subst h;rw[iP rfl,iP (VZ hc b)];exact .cons hc hd ih
  .have m: ¬c'=k':=λz=>h (OQ hc (z.symm▸b));rw[iN h,iN m];exact .cons hc a ih
def DenK.append: ∀{kvs j}{xs m},DenK X.K α H kvs xs->DenK X.K α H j m->DenK X.K α H (kvs++j) (xs++m):=λb=>by
 induction b with
 |nil=>exact(λh=>h)
 |cons hk a l ih=>exact(λh=>.cons hk a (ih h))
def DenK.length: ∀{kvs}{xs},DenK X.K α H kvs xs->↑7=kvs.length:=λa=>by
 induction a with
 |nil=>exact rfl
 |cons _ _ l ih=>exact by rw[lC,lC,ih]
def OR(l:DenK X.K α H kvs ks)(b:KeyD k k')(hd:Den X.K α H d v):DenK X.K α H (putK kvs k d) (AD ks k' v):=by
 unfold putK AD;rw[(show (ks.any λj=>decide (j.1=k'))=(look kvs k).isSome by
   induction l with
   |nil=>rfl
   |@cons c c' _ _ _ _ hc a l ih=>
    rw[xE,List.any_cons];by_cases h:c=k
    .subst h;rw[iP rfl,dT0 (VZ hc b)];rfl
    .have m: ¬c'=k':=λz=>h (OQ hc (z.symm▸b));rw[iN h,dF0 m];exact ih)];by_cases h:(look kvs k).isSome=true
 .rw[iP h,iP h];exact Oz l b hd
 .rw[iN h,iN h];exact l.append (.cons b hd .nil)
def DK(X:Cx)(H:Hp)(d:Addr)(ks:List (Key×V)):Prop:=H d=some (.dK ks)\/(ks=[]/\H d=some (DN X.prog X.w d []))
def DK.nf(h:DK X H d ks): ∀ob u,H d≠some (.frz ob u):=h.elim (λz=>Lm z) λz=>by first |exact Lm z.2|exact z.elim
def jQ(I:↑1)(h:DK X H d ks):ks.length<=sizeLine/\(d==sysModules)=false/\ ∃vs,KV ks vs/\s.heap.DictOf (wX X.prog X.w) d vs:=by
 rcases h with h|⟨rfl,h⟩
 .exact(I.hok d _ h)
 .obtain⟨⟨v,hs,o,es,q,m,j,hd,c,u⟩,_⟩:=(I.hok d _ h)
  have a:=c;refine{zero_le _,hs,[],.nil,o,es,q,m,j,hd,λe b=>?_,by rw[a];exact .nil,nodup_nil};rw[<-Array.mem_toList_iff,a]at b;exact absurd b (by simp)
theorem Cw:CallR X (.type "list") (λxs H Q=> ∃d ks,xs=[.ref d]/\DK X H d ks/\X.calm=true/\ ∀l,H l=none->Q (.ref l) (yP H l (.lst (ks.map λp=>kV p.1)))):=by
 intro pins s σ H xs us Q I r h;refine h.l λd ks T F L q=>?_;subst T;refine(vals1 r).a λu U O=>?_;subst U;subst O;obtain⟨z,hd,vs,m,G⟩:=jQ I F;obtain⟨P,A⟩:=G.dictAt;have o:=Paired.length m;refine PySem.W.kdl_call (PySem.W.kdl_dict hd) (I.ok.hd L) A #[0] λh' S B E J D c=>?_
 have K:=by
  have y: ∀{ks:List _}{vs:List _}{us:A0},KV ks vs->us.length=↑9->(∀(j:Nat)(v:ō),us[j]? =some v-> ∃(k:Key)(x:ō),vs[j]? =some (k,x)/\(wX X.prog X.w).is k v=true)->Vals (ks.map λp=>kV p.1) us:=by
   intro ks vs us M
   induction M generalizing us with
   |nil=>intro o _;cases us with
    |nil=>exact .nil
    |cons a b=>simp at o
   |@cons p q ps qs h t ih=>
    intro o C
    cases us with
    |nil=>simp at o
    |cons a b=>
     refine(C 0 a rfl).d λk x e hi=>?_;simp only[getElem?_cons_zero,Option.some.injEq]at e;subst e;rw[ç];refine .cons ?_ (ih (by simpa using o) λj v N=>by simpa using C (j+1) v (by simpa using N));rw[h.1];rcases yD hi with⟨i,t,e1,e2⟩|⟨i,t,e1,e2⟩
     .subst e2;rw[show k=.inl i from e1];exact⟨t,rfl⟩
     .subst e2;rw[show k=.inr i from e1];exact⟨t,rfl⟩
  exact y m (by rw[î];exact c.1) λj v e=>c.2 j v (by rw[<-ñ];exact e)
 refine Z2 (.ref ↑0) _ (I.laid J (à _) (show ObjOk X.prog X.w _ h' _ (.lst _)from{by rw[lM];exact z,B.toList,E,K,?_})) rfl (q _ (I.hok.fresh (à _)));exact D
theorem CN: ∀{kvs}{ks},DenK X.K α H kvs ks->DenL X.K α H (kvs.map (·.1)) (ks.map λp=>kV p.1)
 |_,_,.nil=>yA
 |_,_,.cons (k:=c) (k':=c') hc a l=>by
  refine zT ?_ (CN l)
  cases c with
  |int i=>rw[show c'=.inl i from hc];exact xS i
  |str x=>rw[show c'=.inr _ from hc];exact sE x
  |_=>exact False.elim hc
end
def StrAt(val:Nat->Key)(i:Nat)(v:ō):Prop:=(∃x t,val i=.inr x/\v=.str x t)\/ ∃x t,val i=.inl x/\v=.int x t
def StrAt.is(h:StrAt val i v):(wX P w).is (val i) v=true/\v.scannable=true:=by
 rcases h with⟨x,t,e,rfl⟩|⟨x,t,e,rfl⟩<;>rw[e]
 .exact{vP P w x t,rfl}
 .exact{KG P w x t,rfl}
section
variable{o e:Expr}{es:N0}{id:String}
def DQ(X:Cx)(T:String)(b:V->Hp->Prop):Prop:= ∀(pins:L0)(s:Ō)(σ:St)(H:Hp)(x:V)(v:ō),Inv X pins σ H s->RelV x v->b x H->s.TypeIs v T/\ ∀a,v=.ref a-> ∃ob,s.heap.get? a=some ob/\ob.dict=none
def WA(b:DQ X T TY)(J:PlainAttrs T)(a:Slot T name id)(c:typeOf (.builtin id)=pure (.type "method_descriptor"))(G:Th X id r)(B:PE X o to)(M:PA X (e::es) t)
  (hbase:attributeBase o name X.env (eval o X.env)=eval o X.env)
  (hfew:((backTo pos (starEach (e::es) X.env)).all (λx=>!x.1)&&(backToKw pos (keywordEach [] X.env)).all (λx=>x.1.isSome)
   &&decide ↑3)=true)
  (hline:(apos.endLine==pos.line)=true) (hs:starEach (e::es) X.env=(false,eval e X.env)::starEach es X.env) (hplain:(backTo pos (starEach es X.env)).any (·.1)=false):
  PE X (.Call (.Attribute o name apos) (e::es) [] pos) (λσ H Q=>to σ H λx j=>TY x j/\t σ j λvs m=>r x vs m Q):=by
 rw[22];refine wpAny_Call_method_late hbase hfew hline rfl (xV (B pins s σ H _ I h) λv q ⟨x,j,I1,u,D,y⟩=>?_);obtain⟨N,E⟩:=b pins q σ j x v I1 u D;refine Y6 T id {J,a,c,N,E,?_};have w:=M pos pins q σ j _ I1 y;rw[hs]at w ⊢;refine Calls.callWith_builtin (by show(false || (backTo pos _).any (·.1))=false;rw[hplain]<;>rfl) (Calls.evalArgs_plain ?_);exact xV w λK L ⟨vs,m,A,C,F⟩=>G pins L σ m x vs v K Q A u C F
def TyD(X:Cx)(x:V)(H:Hp):Prop:= ∃d xs,x=.ref d/\DD X H d xs
def JC:DQ X "dict" (TyD X):=by
 intro pins s σ H x v I q ⟨d,xs,e,m⟩;subst e;subst q;rcases m with h|⟨rfl,h⟩
 .obtain⟨⟨w,hs,o,es,j,c,b,_⟩,_⟩:=(I.hok d _ h)
  exact{{o,c,b.1},λa e=>by cases e;exact{o,c,b.2.1}}
 .obtain⟨_,hs,vs,u,o,es,j,c,b,_⟩:=(I.hok d _ h)
  exact{{o,c,b.1},λa e=>by cases e;exact{o,c,b.2.1}}
end
section
variable{KK:Type}[DecidableEq KK]{knd:HeapKind P w KK}
theorem Jn(G:knd.room A)(c:knd.is s.heap k a)(L:s.heap.DictOfH knd d xs)
  (h1: ∀p,atKey xs k=some p->Q p.2 {s with toks:=s.toks+knd.draws k})
  (h2:atKey xs k=none-> ∀h',h'.DictOfH knd d (storedH xs k a v)->Heap.SameBut d s.heap h'->Q v {s with heap:=h',toks:=s.toks+knd.draws k}) (hsz:↑7<=sizeLine):
  wpAny (model P w) A (dictSetDefault d (.ref a) v) Q E s:=by
 refine L.h λo es K M=>M.e λu J hd D C F=>?_;unfold dictSetDefault
 try with_reducible refine ð ?_
 refine wB (knd.pyHash G c ?_);refine wB (wpAny_dictFind_heap G c u hd D C F ?_ ?_)
 .intro B;have b:=atKey_none_of_get B;have q:=storedH_new b
  refine wB (Ě (wB (wpAny_updateDictKeys (hz:=by have e:=size_of_entries D;lia) u hd (wP (h2 b _ (Zj _ _ (K+1) {Heap.get?_update_self _ u (Obj.isFreed_of_dict (Obj.data_mapDictKeys hd _)),J.mapDictKeys _,Obj.data_mapDictKeys hd _,?_,?_,?_}) (Ę ..))))))
  .rw[q];simp[D,entryOfKey]
  .rw[q];intro x m;rcases ì.mp m with m|m
   .exact knd.keeps (C x m) u hd (Ę ..)
   .rw[mS.mp m];exact knd.keeps c u hd (Ę ..)
  .rw[q,ù,Ŀ];refine{F,by simp,λx m y I=>?_};rw[mS.mp I];rintro rfl;exact not_mem_keys_of_get B m
 .intro j p H;refine wB (Ħ u hd ?_);rw[entry_at D j,H];exact wB (Ě (wP (h1 _ (atKey_of_get F H))))
end
section
variable{X:Cx}{o e:Expr}{apos pos:Pos}
def Gb(q:DenN X.K α H kvs xs)(b:xP k=some nk):look kvs k=some dd-> ∃a u v,atKey xs nk=some (a,u)/\Den X.K α H dd v/\RelV v u:=by
 induction q with
 |nil=>exact nofun
 |@cons k' nk' a _ v u _ _ hk' e ha hd r l ih=>
  intro h;rw[xE]at h;by_cases c:k'=k
  .have m:nk'=nk:=by rw[c,b]at hk';exact(è hk').symm
   rw[iP c]at h;cases h;exact Zj a u v {(by rw[FC,iP m]),hd,r}
  .have m:nk'≠nk:=λz=>c (GY hk' (by rw[b,z]));rw[iN c]at h;rw[FC,iN m];exact ih h
def rSD(X:Cx):V->List V->Hp->VK->Prop:=λx vs H Q=> ∃(α:B9)(kvs:Y0)(xs:List (NK×Addr×ō))(a d:Addr)(k:MV)(b:NK)(y:V),x=.ref d/\vs=[.ref a,y]/\DD X H d xs/\DenN X.K α H kvs xs/\xP k=some b/\sC b<=4/\Den X.K α H k (.ref a)/\↑7<sizeLine/\
 (∀c v,look kvs k=some c->Den X.K α H c v->Q v H)/\(look kvs k=none-> ∀u,RelV y u->Q y (yP H d (DN X.prog X.w d (storedH xs b a u))))
def zDU(p:Er)(k y:MV)(a:Sto):R Er:=match kO a p with
 |some (l,kvs)=>if keyOk k=true/\kvs.length<1000000 then match look kvs k with
  |some d=>.ok (.val d) a
  |none=>.ok (.val y) (a.set l (.dic (putK kvs k y)))
  else .no
 |none=>.no
def zBH(p:Er)(rs:List Er)(S:Sto):R Er:=match rs with
 |[.val k,r]=>(kM r S).bind λy a=>zDU p k y a
 |_=>.no
def oV(p:Er)(S:Sto):Bool:=(kO S p).isSome
def zDV:YV X W (rSD X) zBH:=by
 intro p rs x vs α S O H Q q wd x0 dp C a
 match rs,C,a with
 |[],_,a=>exact a.elim
 |[.val _],_,a=>exact a.elim
 |.new _::_,_,a=>exact a.elim
 |.val _::_::_::_,_,a=>exact a.elim
 |[.val k,r],C,a=>
  cases C with
  |cons dk n1 l1=>
   cases l1 with
   |cons d n2 l2=>
    cases l2;refine(dP wd x0 d).i λd' S' α' Z F P s I=>?_;have a:Post X.g W q O ((kM r S).bind λy S1=>zDU p k y S1) Q:=a;rw[Z]at a;have a:Post X.g W q O (zDU p k d' S') Q:=a;unfold zDU at a;split at a
    .rename_i l v G;split at a
     .rename_i J
      have E:DenX X.K α' H p x:=by
       cases p with
       |val m=>exact Den.ex0 P dp
       |new ds=>cases G
      refine(GZ J.1).c λL U N h3=>?_;refine(AB s G E).n λc xs V M hS j D=>?_;subst V;have b:=Den.ex0 P dk.1;obtain⟨T,rfl⟩:=MM h3 b;refine{α',v,xs,T,c,k,L,_,rfl,rfl,j,D,U,N,b,?_,λd2 v2 A g2=>?_,λA u Y=>?_}
      .rw[D.length];exact ä J.2 (fits (à _))
      .rw[A]at a;exact(Post.shift F a).val s g2
      .rw[A]at a;have B:=s.writex M j.nf (o:=DN X.prog X.w c (storedH xs L T u));exact(Post.shift (F.trans B) a).val (s.write M j.nf (.inr (Z3 _ zM ((VV D U N b I Y).ex0 B.toEx0)))) (I.ext B)
     .exact a.elim
    .exact a.elim
def zDW(hu:X.A.units+64<cLine)(m:zS X W o f)(J:KQ X W (e::es) af)
  (hbase:attributeBase o "setdefault" X.env (eval o X.env)=eval o X.env:=by rfl)
  (hfew:((backTo pos (starEach (e::es) X.env)).all (λx=>!x.1)&&(backToKw pos (keywordEach [] X.env)).all (λx=>x.1.isSome)
   &&decide ↑3)=true:=by rfl)
  (hline:(apos.endLine==pos.line)=true:=by rfl) (hs:q9 X e es:=by rfl) (hplain:Q2 X pos es:=by rfl):
  zS X W (.Call (.Attribute o "setdefault" apos) (e::es) [] pos) (λρ S=>(f ρ S).bind λp L=>if oV p L=true then(af ρ L).bind λrs S2=>zBH p rs S2 else .no):=by
 refine m.a λto m fo=>?_;refine J.a λt J k=>?_;refine(Z3 _ (WA JC PySem.F.plainAttrs_dict PySem.F.slot_dict_setdefault PySem.F.type_dict_setdefault ((show Th X "dict.setdefault" (rSD X) by
   intro pins s σ H x vs v us Q I rx rv h;obtain⟨α,j,xs,a,d,k,nk,y,rfl,rfl,D,l,hk,e,J,K,B,Z⟩:=h;refine(vals2 rv).b λu1 u2 ac r1 r2=>?_;subst ac;subst rx;subst r1;refine(sI I D l).f λhm O hs=>?_;have hT:=(JC pins s σ H (.ref d) _ I rfl (ZX d xs rfl D)).1;have G:=VU l hk;refine é PySem.F.slot_dict_setdefault hT PySem.F.entry_dict_setdefault ?_ (PySem.F.args_dict_setdefault_3 _ _ _);refine wB ?_;refine wB (Ĝ hT ?_);refine wP ?_;show wpAny _ _ (if _=true then _ else _) _ _ s;refine qq (iN (by rw[hs];exact xF0)) ?_;refine wB (Jn (knd:=yB X.prog X.w) (show X.A.units+1+4<cLine by lia) {JA I hk J rfl,e} hm (λp hp=>?_) (λhn h' U Y=>?_) O)
   .rw[hp]at G;obtain⟨d',E⟩:=ê.mp G.symm;refine(Gb l hk E).h λa2 u3 v3 V=>V.f λg1 g2 g3=>?_;rw[hp]at g1;cases g1;exact wP {_,rfl,v3,H,I.kept (λ_ _ z=>z),g3,B d' v3 E g2}
   .rw[hn]at G
    have P:look j k=none:=by
     cases z:look j k with
     |none=>rfl
     |some _=>rw[z]at G;cases G
    have mu:D8 (H d):=by rcases D with z|⟨_,z⟩<;>refine qq z ?_<;>exact trivial
    refine U.h λob es ep a0=>a0.e λm hc hd he _ M=>?_;refine wP {_,rfl,y,_,I.write mu (.inl rfl) (λb uo hb eo=>(Y.2 b hb).trans eo) ⟨ob,m⟩ ?_,r2,Z P u2 r2};refine{{by have:=FD (xs:=xs) (k:=nk) (a:=a) (u:=u2);lia,hs,ob,es,ep,m,hc,hd,he,M},⟨ob,m⟩,?_};rintro h1 h2 ⟨z1,z2,o',ab,N,aa,r⟩ mv;exact{z1,z2,o',ab,N,mv o' aa,r})) m J hbase hfew hline hs hplain) (λα ρ S σ H Q wd sl q=>fo α ρ S σ H _ wd sl (q.bind λu p L C H1 e1 x1 w1 d1 B=>?_)));split at B
 .rename_i K;obtain⟨⟨l,j⟩,K⟩:=ê.mp K;refine(AB w1 K d1.1).n λc xs am _ _ D _=>?_;subst am;exact{(ZX c xs rfl D),k C ρ L σ H1 _ w1 (sl.ext x1) ((B.shift x1).bind λvs rs S2 T H2 e2 x2 w2 d2 Z=>zDV p rs _ vs T S2 H1 H2 Q C w2 x2 (d1.1.ext x2) d2 Z)}
 .exact B.elim
end
def VAt(d:Addr)(us:A0)(a:Nat)(h:Heap):Prop:= ∃o es,h.get? d=some o/\o.ExactDict/\o.data=.dict es a/\es.toList.map (·.val)=us
def VAt.at(x:VAt d us ep h)(m: ∀o,h.get? d=some o->h'.get? d=some o):VAt d us ep h':=let ⟨o,es,a,r⟩:=x;(ZX o es (m o a) r)
theorem VAt.size(x:VAt d us ep h): ∃o es,h.get? d=some o/\o.ExactDict/\o.data=.dict es ep/\es.size=us.length/\ ∀i (hi:i<es.size),us[i]? =some es[i].val:=by refine x.l λo es b a hd e=>?_;refine Ys o es b a hd (by rw[<-e,lM,î]) (λi hi=>?_);rw[<-e,ë,ñ,ě hi];rfl
section
variable{X:Cx}{id:String}{r:V->List V->Hp->VK->Prop}
def Ws(b:DQ X T TY)(C:PlainAttrs T)(a:Slot T name id)(c:typeOf (.builtin id)=pure (.type "method_descriptor"))(B:Th X id r)(w:PE X o to)
  (hbase:attributeBase o name X.env (eval o X.env)=eval o X.env) (hline:(apos.endLine==pos.line)=true):PE X (.Call (.Attribute o name apos) [] [] pos) (λσ H Q=>to σ H λx j=>TY x j/\r x [] j Q):=by
 rw[22];refine wpAny_Call_method0_late hbase hline (xV (w pins s σ H _ I h) λv m ⟨x,j,I1,q,y,u⟩=>?_);obtain⟨D,A⟩:=b pins m σ j x v I1 q y;exact Y6 T id {C,a,c,D,A,Calls.callWith_builtin rfl (PySem.evalArgs_none (B pins m σ j x [] v [] Q I1 q .nil u))}
def Wt(q:DenN X.K α H kvs xs): ∃ys,DenL X.K α H (kvs.map (·.2)) ys/\Vals ys (xs.map (·.2.2)):=by
 induction q with
 |nil=>exact{[],yA,.nil}
 |cons hk e a d r l ih=>
  refine ih.a λys b c=>?_;exact Z3 (_::ys) (zT d b) (.cons r c)
end
end M
end L2
namespace L2
open PySem PySem.Spec PyProof.Rows
open Builtin Builtin.ObjectAttr
section
def SetAt(h h':Heap)(x:Addr)(o:Obj)(name:Str)(v:ō)(a:Addr):Prop:=
 h.get? a=none/\a≠x/\h'.get? x=some {cls:=o.cls,dict:=some a,data:=o.data,slots:=o.slots}/\h'.Ns1 a (λy=>if y=name then some v else none)/\ ∀b ob,b≠x->h.get? b=some ob->h'.get? b=some ob
end
noncomputable abbrev BIG:Nat:=10 ^ 100
section
variable{σ:St}{H:Hp}
def tJ(i:Nat):TE:=λσ H Q=> ∃n,σ[i]? =some (some (.int n))/\n.natAbs<BIG/\ ∀y:Str,Q (.str y) H
end
namespace M
structure XIn(K:O0)(M C f:Addr):Prop where
 ex: ∃nm q N bs sn sub ab col dd k0 k1 k2 k3 k5,K.lookup C=some (excClassObj nm q C N bs (.ref M::zFV) true sn sub ab col dd k0 k1 k2 k3 k5 "ValueError.__new__")/\PySem.W.nsOkIn K N=true/\PySem.W.nsIn K N "__init__"=some (some (.ref f))/\ ∀n∈qn,PySem.W.nsIn K N n=some none
 fo: ∃o,K.lookup f=some o/\o.cls=.type "function"
def XIn.cl{K:O0}(x:XIn K M C f):XCl K C (.ref M::zFV) (some (.ref f)):=by refine x.ex.y λw q N bs u sub s j y v A o m B k=>k.g λa b c d=>?_;exact⟨w,q,N,bs,true,u,sub,s,j,y,v,A,o,m,B,a,b,c,d,rfl⟩
structure DefM(K:O0)(mg:G0)(x:Str)(st:Stmt):Prop where
 ex: ∃f fd,mg x=some (.ref f)/\Fun K x x st f fd
def def_mk{K:O0}{st:Stmt}{kV:ō}(a:PySem.W.nsIn K mainGlobals x=some (some (.ref g)))
  (l:K.lookup g=some {oc,od,.func (PySem.W.fnOf x x (fQ st) (wY st) (zR st) .none kV dc pm an cd ct),sl}) (c:PySem.W.codeIn K cd x=true) (k:PySem.W.keepIn K (.ref g)=true) (X:K.In h) (GG:h.Ns mainGlobals mg):DefM K mg x st:={_,_,PySem.W.mg_of X GG a,fun_mk l c k}
structure Cal(P:Ŏ)(w:World)(K:O0)(mg:G0)(base:Heap)(CX:Id)(x:Str)(k:Nat)(ps:D0)(sp:Sp):Prop where
 ex: ∃fa fd,FnOk P w K mg base CX k fa fd ps sp/\mg x=some (.ref fa)/\PySem.W.keepIn K (.ref fa)=true/\Binds K fd ps []
abbrev yF(P:Program)(w:World)(K:O0)(mg:G0)(base:Heap)(x:Str)(k n:Nat)(ps:D0)(F:↑13):Prop:=Cal P w K mg base rE x k ps (KR ⟨K,mg,P,w⟩ n F)
abbrev CalX(P:Program)(w:World)(K:O0)(mg:G0)(base:Heap)(x:Str)(k n:Nat)(ps:D0)(F:↑13):Prop:=Cal P w K mg base (CXe P w) x k ps (zFX ⟨K,mg,P,w⟩ n F)
section
variable{K:O0}{st:Stmt}
abbrev Pa(x:Str)(st:Stmt)(ps:D0):Prop:= ∀(kV b j:Value)(c:Option Addr)(a ct:Value)(us:A0),us.length=ps.length->bindArgs (PySem.W.fnOf x x (fQ st) (wY st) (zR st) .none kV b j c a ct) {us,[]}=pure (ps.zip us)
def Cal.noX(G:CalX P w K mg base x k n ps F):yF P w K mg base x k n ps F:=let ⟨j,a,G,m,c,b⟩:=G.ex;⟨j,a,G.noX,m,c,b⟩
def W4{l:PySem.W.OpenLaw}(D:DefM K mg x st)(a:mg x=some (.ref fa))(c: ∀ kV u G  B  q ct  s  v ,BindsTo s (PySem.W.fnOf x x (fQ st) (wY st) (zR st) .none kV u G B q ct) {[v],[]} [(p,v)])
  (h: ∀base f j,Fun K x x st f j->FnOk l.prog w K mg base rE k f j [p] (KR ⟨K,mg,l.prog,w⟩ 1 F)):
  ∃j:FuncData,(∀ s  v ,BindsTo s j {[v],[]} [(p,v)])/\ ∀base:Heap,K.In base->base.Ns mainGlobals mg->FnOk l.prog w K mg base rE k fa j [p] (SU K F):=by
 refine D.ex.d λf j m b=>?_;rw[a]at m;cases m;refine Z3 j ?_ (λbase _ _=>(h base fa j b).imp λvs H Q E=>Oi (g:={K,mg,_,w}) vs H Q E);refine b.ex.x λ_ _ _ _ _ _ _ _ _ o=>o.f λy _ _=>?_;subst y;exact c _ _ _ _ _ _
end
section
variable{p pos:Pos}
def Pb(G:yF X.prog X.w X.K X.mg X.base x k n ps F)(E:Room k X.A)(C:Gl X x)(c:KQ X W (e::es) af)(a:(x==("__debug__"))=false:=by decide)
  (he:q9 X e es:=by rfl) (hpl:Q2 X pos es:=by rfl):zS X W (.Call (.Name x p) (e::es) [] pos) (λρ S=>(af ρ S).bind λrs j=>zC n F rs j):=
 let ⟨_,_,G,m,s,b⟩:=G.ex;(by
   refine c.a λt c v=>?_;refine Z3 _ (Tb G E C m s b .nil Mn c a he hpl) (λα ρ S σ H Q I sl q=>v α ρ S σ H _ I sl (q.bind λvs rs j u J L D B y o=>?_));rw[aN];exact IU D B y o)
end
end M
end L2
namespace L2
open PySem PySem.Spec PyProof.Rows
structure RoomH(k:Nat)(A:Around):Prop where
 dp:A.depth+3 * k+5<recursionLimit
 un:A.units+16 * k+200<cLine
def RoomH.depth(r:RoomH k A):A.depth<recursionLimit:=by have:=r.dp;lia
def RoomH.units(r:RoomH k A):A.units+64<cLine:=by have:=r.un;lia
structure FnOkH(P:Ŏ)(w:World)(K:O0)(mg:G0)(base:Heap)(k:Nat)(f:Addr)(fd:FuncData)(ps:D0)(sp:Sp):Prop where
 len: ∀vs H Q E,sp vs H Q E->↑9=ps.length
 run: ∀(A:Around)(outer:List Env)(s:Ō)(H:Hp)(args:Args)(us:A0)(vs:List V)(Q:VK)(E:XK),RoomH k A->HdA A H->Env0 P w K mg base A outer s H->BindsTo s fd args (ps.zip us)->Vals vs us->sp vs H Q E->
  codeAny (model P w) A (.call (.ref f) args) (CR rE outer P w H s Q E) s
namespace M
section
variable{P:Ŏ}{w:World}{K:O0}{mg:G0}{base:Heap}{x:Str}{ps:D0}{k n:Nat}{F:↑13}
structure CalH(P:Ŏ)(w:World)(K:O0)(mg:G0)(base:Heap)(x:Str)(k n:Nat)(ps:D0)(F:List MV->Sto->R Er):Prop where
 ex: ∃fa fd,FnOkH P w K mg base k fa fd ps (KR ⟨K,mg,P,w⟩ n F)/\mg x=some (.ref fa)/\PySem.W.keepIn K (.ref fa)=true/\Binds K fd ps []
end
noncomputable def zDX(kvs:Y0)(S:Sto):R Er:=.ok (.val (.loc ↑2)) (S++[.dic kvs])
section
variable{X:Cx}{o e:Expr}{es:N0}
noncomputable def dL(ks:List (Key×V))(k:Key):Option V:=(ks.find? λp=>decide (p.1=k)).map (·.2)
theorem MN: ∀{ks}{vs}(r:KV ks vs) k ,(∀v,dL ks k=some v-> ∃u,valueAt vs k=some u/\RelV v u)/\(dL ks k=none->valueAt vs k=none)
 |_,_,.nil,k=>{λv h=>(nomatch h),λ_=>rfl}
 |(a,x)::ks,(b,u)::vs,.cons ⟨h1,h2⟩ l,k=>by
  subst h1;unfold dL valueAt;by_cases c:a=k
  .simp only[find?_cons,c];exact{λv h=>{u,rfl,by cases h;exact h2},λh=>nomatch h}
  .simp only[find?_cons,c];exact(MN l k)
theorem CO: ∀{kvs}{ks}{k}{k'},DenK X.K α H kvs ks->KeyD k k'->(∀d,look kvs k=some d-> ∃v,dL ks k'=some v/\Den X.K α H d v)/\(look kvs k=none->dL ks k'=none)
 |_,_,_,_,.nil,_=>{λd h=>(nomatch h),λ_=>rfl}
 |_,_,k,k',.cons (k:=k0) (k':=k0') (v:=v0) h1 h2 l,hk=>by
  rw[xE];unfold dL;by_cases c:k0=k
  .subst c;have:=VZ h1 hk;simp only[find?_cons,this];exact{λd h=>{v0,rfl,by cases h;exact h2},λh=>nomatch h}
  .have a: ¬k0'=k':=λz=>c (OQ h1 (z▸hk));simp only[find?_cons,a,iN c];exact(CO l hk)
def TyK(X:Cx)(x:V)(H:Hp):Prop:= ∃d a,x=.ref d/\DK X H d a
def WB:DQ X "dict" (TyK X):=by intro pins s σ H x v I m ⟨d,u,e,j⟩;subst e;subst m;obtain⟨_,hs,vs,w,o,es,q,c,b,_⟩:=jQ I j;exact{{o,c,b.1},λa e=>by cases e;exact{o,c,b.2.1}}
end
def Pc(l)(items)(n)(dd)(sl)(x)(u)(a:(decide (x< -(2 ^ 63)) || decide (x>=2 ^ 63))=false)(j:(items.isEmpty || x==1)=true):
  Meets (Builtin.«tuple.__mul__» {[.ref l,.int x u],[]}) (λ_ R s=>s.heap.get? l=some {cls:=.type "tuple",dict:=dd,data:=.seq items n,slots:=sl}/\R (.ok (.ret (.ref l))) s):=
 .of_wp λprog w A R s h=>by obtain⟨m,g,d,o,b⟩:=s;obtain⟨c,h⟩:=h;wp_walk;refine wpAny_ite_false (dF0 (by rw[a];exact xF0)) ?_;wp_walk;exact Z3 _ rfl h
def Pd(l)(items)(n)(dd)(sl)(x)(u)(a:(decide (x< -(2 ^ 63)) || decide (x>=2 ^ 63))=false)(m:(items.isEmpty || x==1)=false)(c:(decide (x<=0) || items.isEmpty)=true):
  Meets (Builtin.«tuple.__mul__» {[.ref l,.int x u],[]}) (λ_ R s=>s.heap.get? l=some {cls:=.type "tuple",dict:=dd,data:=.seq items n,slots:=sl}/\R (.ok (.ret (.ref ↑0))) {s with heap:=s.heap.push {cls:=.type "tuple",data:=.seq #[]}}):=
 .of_wp λprog w A R s h=>by obtain⟨o,g,d,q,b⟩:=s;obtain⟨j,h⟩:=h;wp_walk;refine wpAny_ite_false (dF0 (by rw[a];exact xF0)) ?_;wp_walk;exact Z3 _ rfl h
def Pe(l)(items)(n)(dd)(sl)(x)(u)(a:(decide (x< -(2 ^ 63)) || decide (x>=2 ^ 63))=false)(q:(items.isEmpty || x==1)=false)(c:(decide (x<=0) || items.isEmpty)=false)
  (h4: ¬((items.size:Int) * x>(2 ^ 63 - 1) / 8)) (h5:Builtin.Tuple.tupleTooMany ( items.size  * x)=false) (h6: ¬((List.foldl (λm j=>m++j) #[] (List.replicate x.toNat items)).size>sizeLine)):
  Meets (Builtin.«tuple.__mul__» {[.ref l,.int x u],[]}) (λ_ R s=>s.heap.get? l=some {cls:=.type "tuple",dict:=dd,data:=.seq items n,slots:=sl}/\R (.ok (.ret (.ref ↑0))) {s with heap:=s.heap.push {cls:=.type "tuple",data:=.seq ((List.replicate x.toNat items).foldl (· ++·) #[])}}):=
 .of_wp λprog w A R s h=>by obtain⟨v,g,d,y,b⟩:=s;obtain⟨o,h⟩:=h;wp_walk;refine wpAny_ite_false (dF0 (by rw[a];exact xF0)) ?_;wp_walk;refine wpAny_ite_false (dF0 h4) ?_;wp_walk;exact Z3 _ rfl h
section
variable{a b:Expr}
def zDY(K:O0):R2:=λx y H Q=> ∃l k xs,x=.ref l/\y=.int k/\SqT K H l xs/\0<=k/\k<100000/\↑7 * k.toNat<=1000000/\
 ((xs=[]\/k=1)->Q (.ref l) H)/\(¬(xs=[]\/k=1)-> ∀p,H p=none->Q (.ref p) (yP H p (.tup (List.replicate k.toNat xs).flatten)))
def Wu:OpR X (binaryOp .Mult) (zDY X.K):=by
 intro pins s σ H x y v u Q I rx Y h;refine h.h λl k xs V=>V.t λac am hT h0 h1 hz W S=>?_;subst ac;subst am;subst rx;obtain⟨t,rfl⟩:=Y;refine(I.tuple hT).c λc E p1 _=>?_;obtain⟨⟨cls,D,data,sl⟩,j,O,n,hd⟩:=id p1;simp only at O hd;subst O hd;have G:(decide (k< -(2 ^ 63)) || decide (k>=2 ^ 63))=false:=by rw[dF0 (by lia),dF0 (by lia)];rfl
 have m:c.length=xs.length:=E.length.symm;have C:↑7 * k.toNat<=sizeLine:=ó hz (by rw[ý];lia)
 have J:wpAny ↑5 X.A (call (.builtin "tuple.__mul__") [.ref l,.int k t]) (EP X pins σ Q) X.xe s:=by
  by_cases hs:xs=[]\/k=1
  .refine ģ PySem.F.slot_tuple_mul {_,j,rfl} PySem.F.entry_tuple_mul (PySem.F.args_tuple_mul_2 _ _) (Pc l c.toArray n D sl k t G ?_) {j,(Z2 (.ref l) H I rfl (W hs))};rcases hs with z|z
   .have e0:c=[]:=E.nil_iff.mpr z;refine qq e0 ?_;rfl
   .rw[z];simp
  .have M:c.toArray.isEmpty=false:=by
    cases c with
    |nil=>exact absurd (.inl (E.nil_iff.mp rfl)) hs
    |cons a r=>simp
   have B:(k==1)=false:=Ĉ.mpr λz=>hs (.inr z);by_cases N:k<=0
   .have L:k=0:=by lia
    refine ģ PySem.F.slot_tuple_mul {_,j,rfl} PySem.F.entry_tuple_mul (PySem.F.args_tuple_mul_2 _ _) (Pd l c.toArray n D sl k t G (by rw[M,B];rfl) (by rw[dT0 N];rfl)) {j,?_};refine Z2 (.ref ↑0) _ (I.laid (t':=s.toks) (o:=.tup (List.replicate k.toNat xs).flatten) (λb ob q=>hP0 _ q) (à _) ?_) rfl (S hs _ (I.hok.fresh (à _)));refine qq L ?_;exact{zero_le _,[],.nil,IsTup.new _ _}
   .have P:(c.toArray.size:Int) * k=((↑7 * k.toNat:Nat):Int):=by rw[sA,m,Int.natCast_mul,Int.toNat_of_nonneg h0]
    refine ģ PySem.F.slot_tuple_mul {_,j,rfl} PySem.F.entry_tuple_mul (PySem.F.args_tuple_mul_2 _ _) (Pe l c.toArray n D sl k t G (by rw[M,B];rfl) (by refine qq (dF0 N) (qq M ?_);rfl) ?_ ?_ ?_) {j,?_}
    .rw[P];lia
    .rw[P];exact dF0 (by lia)
    .have:=foldl_rep c k.toNat [];rw[ī]at this;rw[show(#[]:B0)=([]:A0).toArray from rfl,this,sA,len_rep,m,Nat.mul_comm];lia
    .have:=foldl_rep c k.toNat [];rw[ī]at this;refine qq (show List.foldl (λZ x2=>Z++x2) #[] (List.replicate k.toNat c.toArray)=_ from this) ?_;refine Z2 (.ref ↑0) _ (I.laid (t':=s.toks) (o:=.tup (List.replicate k.toNat xs).flatten) (λb ob q=>hP0 _ q) (à _) ?_) rfl (S hs _ (I.hok.fresh (à _)));exact{by rw[len_rep,Nat.mul_comm];exact C,_,E.rep k.toNat,IsTup.new _ _}
 exact wpAny_binaryOp_repeat_ref (T:="tuple") (U:="int") ↑15 {_,j,rfl} (λs'=>typeIs_int s' k t) (PySem.fillsNumberSlot_seq (id:="tuple.__mul__") (r:=some (.builtin "tuple.__rmul__")) PySem.F.slot_tuple_mul.lookup (by decide+kernel) PySem.F.slot_tuple_rmul.lookup (by decide+kernel)) PySem.F.fills_int_mul PySem.F.slot_int_rmul (by unfold seqRepeat?;refine qq (PySem.seqSlot_of (T:="tuple") (name:="__mul__") (id:="tuple.__mul__") PySem.F.slot_tuple_mul.lookup (by decide+kernel)) (qq (PySem.seqSlot_of (T:="tuple") (name:="__rmul__") (id:="tuple.__rmul__") PySem.F.slot_tuple_rmul.lookup (by decide+kernel)) ?_);rfl) PySem.F.slot_int_index.lookup
  (ģ PySem.F.slot_int_rmul (typeIs_int s k t) PySem.F.entry_int_rmul (PySem.F.args_int_rmul_2 _ _) ((show Meets (Builtin.«int.__rmul__» {[.int k t,.ref l],[]}) (λ_ R s=>s.heap.get? l=some {cls:=.type "tuple",dict:=D,data:=.seq (c.toArray) n,slots:=sl}/\R (.ok (.ret Value.notImplemented)) s) from .of_wp λprog w A R s h=>by obtain⟨hp,g,d,tk,os⟩:=s;obtain⟨hl,h⟩:=h;wp_walk;exact{_,rfl,h})) {j,rfl,{_,j,rfl},J})
noncomputable def SZ:Er->Er->Sto->R Er
 |.val (.tup x),.val (.int k),S=>if 0<=k/\k<100000/\x.length * k.toNat<=1000000 then .ok (.val (.tup (List.replicate k.toNat x).flatten)) S else .no
 |_,_,_=>.no
def Wv(E:zS X W a f)(w:zS X W b g):zS X W (.BinOp a .Mult b pos) (λρ S=>(f ρ S).bind λp D=>(g ρ D).bind λq S2=>SZ p q S2):=by
 refine vW Wu ?_ E w;intro p q x y α S H Q u A C c;unfold SZ at c;split at c
 .rename_i m k;split at c
  .rename_i o;refine(dO A).b λB vs G s j=>?_;subst G;refine Zj B k vs {rfl,yM C,s,o.1,o.2.1,(by rw[j.length];exact o.2.2),(λh=>?_),(λ_ p F=>Post.newt c u F (j.rep _))}
   have e:(List.replicate k.toNat m).flatten=m:=by
    rcases h with z|z
    .have v:=j.length;have:m=[]:=by cases m with |nil=>rfl|cons _ _=>rw[z]at v;simp at v
     rw[this];simp
    .rw[z];simp
   rw[e]at c;exact Post.val c u (nP s j)
  .exact c.elim
 .exact c.elim
end
section
def vJ(i:Nat)(ρ:Rho)(S:Sto):R Er:=Uc (ρ[i]?) S
noncomputable def kJ(d:MV)(_:Rho)(S:Sto):R Er:=.ok (.val d) S
noncomputable def bJ(f:Rho->Sto->R α)(F:α->Sto->R β)(ρ:Rho)(S:Sto):R β:=(f ρ S).bind F
noncomputable def dJ(F:Er->Er->Sto->R Er)(f g:AX)(ρ:Rho)(S:Sto):R Er:=(f ρ S).bind λp S=>(g ρ S).bind λq S=>F p q S
def nJ(f:AX)(ρ:Rho)(S:Sto):R Er:=(f ρ S).bind λp S=>(jM p S).bind λk S=>.ok (.val (.bl !k)) S
def aJ(f g:AX)(ρ:Rho)(S:Sto):R Er:=(f ρ S).bind λp S=>Ue p S λS=>g ρ S
def oJ(f g:AX)(ρ:Rho)(S:Sto):R Er:=(f ρ S).bind λp S=>orF p S λS=>g ρ S
noncomputable def iJ(c:AZ)(f g:Rho->Sto->R α)(ρ:Rho)(S:Sto):R α:=(c ρ S).bind λk S=>if k=true then f ρ S else g ρ S
noncomputable def mJ(_:Rho)(S:Sto):R (Option Int):=.ok none S
noncomputable def tJ(F:Er->Option Int->Option Int->Sto->R Er)(f:AX)(g h:Rho->Sto->R (Option Int))(ρ:Rho)(S:Sto):R Er:=(f ρ S).bind λp S=>(g ρ S).bind λl S=>(h ρ S).bind λu S=>F p l u S
def lJ(k:Y0)(_:Rho)(S:Sto):R Er:=zDX k S
def zJ(_:Rho)(S:Sto):R Er:=KW S
def fJ(n:Nat)(F:↑13)(a:Rho->Sto->R (List Er))(ρ:Rho)(S:Sto):R Er:=(a ρ S).bind λr S=>zC n F r S
def xJ(n:Nat)(F:↑13)(a:Rho->Sto->R (List Er))(ρ:Rho)(S:Sto):R Er:=(a ρ S).bind λr S=>Fv n F r S
def hJ(F:↑13)(_:Rho)(S:Sto):R Er:=zC 0 F [] S
noncomputable def eJ(t:Er->Sto->Bool)(F:Er->List Er->Sto->R Er)(f:AX)(a:Rho->Sto->R (List Er))(ρ:Rho)(S:Sto):R Er:=(f ρ S).bind λp S=>if t p S=true then(a ρ S).bind λr S=>F p r S else .no
noncomputable def gJ(t:Er->Sto->Bool)(F:Er->List Er->Sto->R Er)(f:AX)(ρ:Rho)(S:Sto):R Er:=(f ρ S).bind λp S=>if t p S=true then F p [] S else .no
noncomputable def uJ(_:Rho)(S:Sto):R Bool:=.ok true S
def pJ(i:Rho->Sto->R Wk)(g:MV->Rho->Sto->R Rho)(c:AZ)(e:AX)(n:Nat)(I:Db)(ρ:Rho)(S:Sto):R Er:=(i ρ S).bind λk S=>if k.ds.length<1000000 then(zV g c e (IT n I ρ) k.gs k.ds S).bind λo S=>.ok (.new o) S else .no
def jJ(F G:Er->Er->Sto->R Er)(f g h:AX)(ρ:Rho)(S:Sto):R Er:=(f ρ S).bind λp S=>(g ρ S).bind λq S=>chF F G p q S λS=>h ρ S
noncomputable def qJ(f:AZ)(ρ:Rho)(S:Sto):R Bool:=(f ρ S).bind λk S=>.ok (!k) S
noncomputable def rJ(f g:AZ)(ρ:Rho)(S:Sto):R Bool:=(f ρ S).bind λk S=>if k=true then g ρ S else .ok false S
noncomputable def sJ(f g:AZ)(ρ:Rho)(S:Sto):R Bool:=(f ρ S).bind λk S=>if k=true then .ok true S else g ρ S
noncomputable def wJ(_:Rho)(S:Sto):R (List Er):=.ok [] S
noncomputable def yJ(f:AX)(g:Rho->Sto->R (List Er))(ρ:Rho)(S:Sto):R (List Er):=(f ρ S).bind λp S=>(g ρ S).bind λl S=>.ok (p::l) S
noncomputable def AJ(f:AX)(ρ:Rho)(S:Sto):R Fl:=(f ρ S).bind λr S=>.ok (.ret r) S
noncomputable def BJ(f:AX)(ρ:Rho)(S:Sto):R Fl:=(f ρ S).bind λ_ S=>.ok (.next ρ) S
def CJ(f:AX)(i:Nat)(ρ:Rho)(S:Sto):R Fl:=(f ρ S).bind (NY ρ i)
noncomputable def DJ(F:Er->Er->MV->Rho->Sto->R Rho)(f g:AX)(d:MV)(ρ:Rho)(S:Sto):R Rho:=(f ρ S).bind λp S=>(g ρ S).bind λq S=>F p q d ρ S
def EJ(f:AX)(g:MV->Rho->Sto->R Rho)(ρ:Rho)(S:Sto):R Fl:=(f ρ S).bind (Uo g ρ)
def FJ(i:Rho->Sto->R Wk)(g:MV->Rho->Sto->R Rho)(b:AY)(ρ:Rho)(S:Sto):R Fl:=(i ρ S).bind λk S=>wO g b k.gs k.ds ρ S
noncomputable def GJ(a:Rho->Sto->R (List Er))(c:Str)(ρ:Rho)(S:Sto):R Fl:=(a ρ S).bind λr S=>if r.length<=10 then .exc c [] S else .no
def HJ(cs:D0)(i:Nat)(h:AY)(n:Nat)(F:↑13)(a:Rho->Sto->R (List Er))(ρ:Rho)(S:Sto):R Fl:=(noX (a ρ S)).bind λr S=>V2 cs i (λ_ S=>.ok (.next ρ) S) h ρ (Fv n F r S)
def IJ(cs:D0)(i j:Nat)(h:AY)(n:Nat)(F:↑13)(a:Rho->Sto->R (List Er))(ρ:Rho)(S:Sto):R Fl:=(noX (a ρ S)).bind λr S=>V2 cs i (NY ρ j) h ρ (Fv n F r S)
noncomputable def JJ(ρ:Rho)(S:Sto):R Fl:=.ok (.next ρ) S
end
section
variable{W:XW}{e:Expr}{p:Pos}
def augF(F:Er->Er->Sto->R Er)(i:Nat)(f:AX)(ρ:Rho)(S:Sto):R Fl:=(Uc (ρ[i]?) S).bind λp a=>(f ρ a).bind λq b=>(F p q b).bind (NY ρ i)
def zDZ{C:Int->Int->Prop}{g:Int->Int->Int}(h: ∀ i j  t u  s  Q ,C i j->Q (.int (g i j) s.toks) {s with toks:=s.toks+1}->wpAny ↑5 X.A (inplaceOp op (.int i t) (.int j u)) Q X.xe s):
  PIp X op (λx y H Q=> ∃i j,x=.int i/\y=.int j/\C i j/\Q (.int (g i j)) H):=by
 intro pins s σ H x y u v Q I m b h';refine h'.l λi j k o a q=>?_;subst k;subst o;obtain⟨t,rfl⟩:=m;obtain⟨c,rfl⟩:=b;exact h i j t c s _ a (Z2 (.int _) H (I.tok _) {_,rfl} q)
noncomputable def intsOf:List MV->Option (List Int)
 |[]=>some []
 |.int i::ds=>(intsOf ds).map (i::·)
 |_::_=>none
theorem ints_of{K:O0}: ∀{ds}{j}{vs}{us},intsOf ds=some j->DenL K α H ds vs->Vals vs us->IntsAre us j
 |[],j,vs,us,e,d,r=>by cases e;rw[d.isnil]at r;cases r;exact .nil
 |x::ds,j,vs,us,e,d,r=>by
  refine d.uncons.b λv u k m q=>?_;subst k
  cases r with
  |cons a b=>
   cases x<;>first |(cases e)|skip
   unfold intsOf at e
   cases z:intsOf ds with
   |none=>rw[z]at e;cases e
   |some ms=>
    rw[z]at e;cases e;cases iV m;obtain⟨t,rfl⟩:=a;exact .cons _ _ (ints_of z q b)
def rL: ∀{us}{j},IntsAre us j->Vals (j.map V.int) us:=λa=>by
 induction a with
 |nil=>exact .nil
 |cons n t h ih=>exact .cons ⟨t,rfl⟩ (ih)
theorem Jo:CallR X (.builtin "sorted") (λxs H Q=> ∃l vs ds j α,xs=[.ref l]/\SqL X.K H l vs/\intsOf ds=some j/\DenL X.K α H ds vs/\↑11<64/\ ∀p,H p=none->Q (.ref p) (yP H p (.lst ((PySem.W.sortI j).map V.int)))):=by
 intro pins s σ H xs N Q I r h;refine h.q λl vs ds j α k=>k.e λP J hi hd O q=>?_;subst P;refine(vals1 r).a λu T L=>?_;subst T;subst L;refine(I.list J).c λa y p _=>?_;have v:=ints_of hi hd y;have c:a.length<64:=by have:=y.length;have:=hd.length;lia
 refine sorted_ints p.isList v c λout C m A D=>?_;obtain⟨e,B⟩:=sortedAll_at s.heap a out;have F:=PySem.W.eq_sortI A D;subst F;refine Z2 (.ref _) _ (I.laid (λb o e=>sortedAll_old e) (le_succ _) (show ObjOk X.prog X.w _ _ _ (.lst _)from{?_,_,e,rL m,?_})) rfl (q _ (I.hok.fresh (le_succ _)))
 .have G:=(rL m).length;have M:=A.length_eq;have E:=(rL v).length;have:=ý;rw[lM]at G E ⊢
  lia
 .rw[Array.toArray_toList];exact B
def FF:bootBuiltins "sorted"=some (.builtin "sorted"):=by decide+kernel
def ZM(rs:List Er)(S:Sto):R Er:=match rs with
 |[p]=>match xQ S p with
  |some ds=>if ds.length<64 then(match intsOf ds with |some ns=>.ok (.new ((PySem.W.sortI ns).map MV.int)) S|none=>.no)else .no
  |none=>.no
 |_=>.no
def Ww:dH X W (λxs H Q=> ∃l vs ds j α,xs=[.ref l]/\SqL X.K H l vs/\intsOf ds=some j/\DenL X.K α H ds vs/\↑11<64/\ ∀p,H p=none->Q (.ref p) (yP H p (.lst ((PySem.W.sortI j).map V.int)))) ZM:=by
 intro rs vs α S H Q b d a;unfold ZM at a;split at a
 .split at a
  .rename_i ds e;split at a
   .rename_i s;split at a
    .rename_i j hi;refine(dI d).a λv k c=>?_;subst k;refine(oS rfl b e c).b λl q y o m=>?_;subst y;exact Yq l q ds j (α) rfl o hi m s (λp u=>Post.newl a b u (rG _))
    .exact a.elim
   .exact a.elim
  .exact a.elim
 .exact a.elim
end
def KJ(n:Nat)(F:↑13)(a:Rho->Sto->R (List Er))(ρ:Rho)(S:Sto):R Er:=(noX (a ρ S)).bind λr S=>Fv n F r S
def LJ(c:AZ)(f g:AX)(ρ:Rho)(S:Sto):R Er:=(noX (c ρ S)).bind λk S=>if k=true then f ρ S else g ρ S
def MJ(cs:D0)(i:Nat)(h:AY)(f:AX)(ρ:Rho)(S:Sto):R Fl:=V2 cs i (λ_ S=>.ok (.next ρ) S) h ρ (f ρ S)
section
noncomputable def Pf(r:Addr)(j:Int):HO:=.ext λh=> ∃t u v,IsRange h r 0 j 1 t u v
def W5(D:Gl X "range")(A:X.mg "range"=none)(F:PA X [a] ta)(hs:starEach [a] X.env=[(false,eval a X.env)]:=by rfl):
  PE X (.Call (.Name "range" p3) [a] [] pos2) (λσ H Q=>ta σ H λvs m=> ∃j:Int,vs=[.int j]/\ ∀r,m r=none->Q (.ref r) (yP m r (Pf r j))):=by
 rw[22];refine Call_ (pT I D A boot_range (ĉ (xV (F pos2 pins s σ H _ I h) λJ w ⟨vs,m,I1,B,y⟩=>?_) hs rfl));refine y.a λj k q=>?_;subst k;obtain⟨u,rfl,t,rfl⟩:=vals1 B;refine call_range_1 ?_;have c:=I1.hok.fresh (à _);refine Z2 (.ref w.heap.objs.size) _ (I1.laid (o:=Pf w.heap.objs.size j) (λb o e=>hP0 _ e) (à _) {(Zj _ _ _ (IsRange.new ..)),{_,á _ rfl},?_}) rfl (q _ c);rintro K G ⟨t,u,v,E⟩ C;exact Zj t u v (C _ E)
def RL{a:Int}{n:Nat}(S:A.handled=none)(M:IsRange s.heap r a b c t u v)(y:Builtin.Range.small a b c=true)
  (hn:Builtin.Range.rangeSize a b c=n) (hlen:n<=2 ^ 24) (hQ: ∀h' m j,↑8->ItemsOf (λi v=> ∃t,v=.int (a+i * c) t) j n->Q j.toList {s with heap:=h',toks:=m}):
  wpAny ↑6 A (collect (.ref r)) Q E s:=by
 unfold collect;refine wB (wpAny_runValue (Ď F.entry_proto_collect ?_));rw[ď F.plain_proto_collect _];show wpAny _ A.in1 _ _ _ s;refine wB (Ā ?_);refine wP {ġ F.plain_list_iadd _,Ď F.entry_list_iadd ?_};rw[ď F.plain_list_iadd _];show wpAny _ A.in1 _ _ _ _;have N:(s.heap.push {cls:=.type "list",data:=.seq ([]:A0).toArray}).get? ↑0=some {cls:=.type "list",data:=.seq #[] 0}:=á _ rfl
 have B: ∀h' m j q,(∀b o,b≠↑0->(s.heap.push {cls:=.type "list",data:=.seq ([]:A0).toArray}).get? b=some o->h'.get? b=some o)->h'.get? ↑0=some {cls:=.type "list",dict:=none,data:=.seq j q,slots:=#[]}->ItemsOf (λi v=> ∃t,v=.int (a+i * c) t) j n->
   wpAny (model prog w) A (match Value.ref s.heap.objs.size with
   |Value.ref a=>do
    match (<-load a).data with
     |Data.seq xs _=>pure xs.toList
     |_=>unsupported "internal:collect"
   |_=>unsupported "internal:collect") Q E {s with heap:=h',toks:=m}:=by
  intro h' m j q P L C;show wpAny _ A _ _ _ _;refine wB (wpAny_load L ?_);refine wP ?_;exact hQ h' m j (λb o e=>P b o (å (â e)) (hP0 _ e)) C
 refine þ (wpAny_extend_range (R:=λI J=>I=.ok _/\ ∃h' m j q,J={s with heap:=h',toks:=m}/\(∀b o,b≠↑0->(s.heap.push {cls:=.type "list",data:=.seq ([]:A0).toArray}).get? b=some o->h'.get? b=some o)/\h'.get? ↑0=some {cls:=.type "list",dict:=none,data:=.seq j q,slots:=#[]}/\ItemsOf (λi v=> ∃t,v=.int (a+i * c) t) j n)
  S (hP0 _ M) y hn hlen ↑0 (.ref ↑0) 0 N λh' m j q D H G=>⟨rfl,h',m,j,q,rfl,D,H,G⟩) (λK J h=>?_) (λe J h=>?_)
 .cases K with
  |done f=>
   obtain⟨e,h',m,j,q,rfl,D,H,G⟩:=h;cases e;exact B h' m j q D H G
  |again q=>exact{h.1,codeAny_mono h.2 λr O M=>by obtain⟨rfl,h',m,j,q,rfl,D,H,G⟩:=M;exact B h' m j q D H G}
 .exact absurd h.1 (by simp)
end
section
variable{n:Nat}
def ZN(L:A.handled=none)(H:IsRange s.heap r a b c t u v)(m:Builtin.Range.small a b c=true)(J:Builtin.Range.rangeSize a b c=n)(y:n<=2 ^ 24)
  (h: ∀(h':Heap) D  acc' ,↑8->ItemsOf (λi v=> ∃t,v=.int (a+i * c) t) acc' n->Q₁ (.ref h'.objs.size) {s with heap:=h'.push {cls:=.type "tuple",data:=.seq acc'},toks:=D}):
  codeAny ↑6 A (.call (.builtin "tuple.__new__") {[.type "tuple",.ref r],[]}) (wants Q₁ E) s:=by
 refine codeAny_of_tree ?_;show wpAny _ A.in1 _ _ _ s;refine wB (wpAny_of_eq (F.newCall_tuple_1 _) (wP {ġ F.plain_tuple_new _,Ď F.entry_tuple_new ?_}));rw[ď F.plain_tuple_new _];have G:=sub_tuple_self;have C:=init_tuple_lookup;have I:=madeHere_tuple;have B:s.TypeIs (.ref r) "range":=(Z3 _ H rfl)
 wp_walk using Č B,RL (A:=A.in1) L H m J y
 intro h' D j K q;show wpAny _ _ (Builtin.Tuple.tupleExact j.toList.toArray >>= λv=>ret v) _ _ _;unfold Builtin.Tuple.tupleExact;refine wB (Ā ?_ (by show j.toList.toArray.size<=sizeLine;simp only[Array.toArray_toList];rw[q.1,ý];omega));refine wP ?_;have e:j.toList.toArray=j:=by simp
 rw[e];exact h h' D j K q
def JE(I:A.handled=none)(J:IsRange s.heap r a b c t u v)(q:Builtin.Range.small a b c=true)(K:Builtin.Range.rangeSize a b c=n)(B:n<=2 ^ 24)
  (hQ: ∀(h':Heap) G  acc' ,↑8->ItemsOf (λi v=> ∃t,v=.int (a+i * c) t) acc' n->Q (.ref h'.objs.size) {s with heap:=h'.push {cls:=.type "tuple",data:=.seq acc'},toks:=G}):
  wpAny ↑6 A (call (.type "tuple") [.ref r]) Q E s:=by
 refine callType_codes (Q₁:=λy j=>j.TypeIs y "tuple"/\Q y j) F.called_tuple (F.typeCall_tuple_1 _) F.entry_object_init
  (ZN I J q K B λh' G D H C=>{(Z3 _ (á _ rfl) rfl),hQ h' G D H C}) λy j m=>?_
 exact{m.1,F.args_object_init_2 y _,object_init_meets F.called_tuple.init.lookup F.called_tuple.made ↑15 prog w A.in1 _ j {m.1,rfl,m.2}}
end
section
variable{pos pos2 p2 p3:Pos}
noncomputable abbrev W6(j:Int):List Int:=(List.range j.toNat).map Int.ofNat
theorem Jp:CallR X (.type "tuple") (λxs H Q=> ∃r j,xs=[.ref r]/\H r=some (Pf r j)/\ -1000000<=j/\j<=1000000/\X.calm=true/\ ∀p,H p=none->Q (.ref p) (yP H p (.tup ((W6 j).map V.int)))):=by
 intro pins s σ H xs P Q I r h;obtain⟨K,j,rfl,D,N,O,G,q⟩:=h;refine(vals1 r).a λ_ T L=>?_;subst T;subst L;obtain⟨⟨t,u,v,E⟩,_⟩:=(I.hok K _ D)
 refine JE (I.ok.hd G) E (small_one ↑15 ↑15 #[0] #[0]) (show Builtin.Range.rangeSize 0 j 1=j.toNat by rw[rangeSize_one];split<;>lia) #[0] λh' y a B c=>?_;have I1:Inv X pins σ H {s with heap:=h',toks:=y}:=I.kept B
 have F:Inv X pins σ (yP H h'.objs.size (.tup _)) {s with heap:=h'.push {cls:=.type "tuple",data:=.seq a},toks:=y}:=
  I1.laid (λb o e=>hP0 _ e) (à _) ({?_,_,(by
    obtain⟨M,J⟩:=c;refine ?_
    have m: ∀(l:A0)(k:Nat),(∀i v,l[i]? =some v-> ∃t,v=Value.int ((k+i:Nat):Int) t)->Vals (((List.range' k l.length).map Int.ofNat).map V.int) l:=by
     intro l
     induction l with
     |nil=>intro k _;exact .nil
     |cons x l ih=>
      intro k A;obtain⟨t,rfl⟩:=A 0 x rfl;refine .cons ⟨t,rfl⟩ (ih _ λi v w=>?_);obtain⟨C,e⟩:=A (i+1) v w;exact{C,by exact qq e (qq (show k+_=k+1+i by lia) rfl)}
    have:=m a.toList 0 λi v w=>by
     obtain⟨t,e⟩:=J i v (by rw[<-ñ];exact w);refine{t,e.trans ?_};congr 1
     lia
    rw[î,M, <-List.range_eq_range']at this;exact this),?_})
 .exact(Z2 (.ref h'.objs.size) _ F rfl (q _ (I1.hok.fresh (à _))))
 .rw[lM,lM,ú,ý]
  lia
 .have:=IsTup.new h' a;simpa using this
def HD(rs:List Er)(S:Sto):R Er:=match rs with
 |[.val (.int j)]=>if -1000000<=j/\j<=1000000 then .ok (.val (.tup ((W6 j).map MV.int))) S else .no
 |_=>.no
def Wx(J:X.calm=true)(D:Gl X "tuple")(K:X.mg "tuple"=none)(c:Gl X "range")(m:X.mg "range"=none)(s:KQ X W [a] af)(hs:starEach [a] X.env=[(false,eval a X.env)]:=by rfl)
  (he1:starEach [.Call (.Name "range" p3) [a] [] pos2] X.env=(false,eval (.Call (.Name "range" p3) [a] [] pos2) X.env)::starEach [] X.env:=by rfl) (hpl1:(backTo pos (starEach [] X.env)).any (·.1)=false:=by rfl):
  zS X W (.Call (.Name "tuple" p2) [.Call (.Name "range" p3) [a] [] pos2] [] pos) (λρ S=>(af ρ S).bind HD):=by
 refine s.a λt s k=>?_;refine Z3 _ (SF Jp D K OI (UL (W5 c m s hs) Ca he1) ↑15 ↑15 he1 hpl1) (λα ρ S σ H Q F sl q=>k α ρ S σ H _ F sl (q.bind λvs rs O I N P E y C b=>?_))
 replace b:=b.shift E
 unfold HD at b;split at b
 .split at b
  .rename_i j A;refine(OA C).a λu T B=>?_;subst T;cases yM B;refine{j,rfl,λv w=>?_};have G:=y.newx (o:=Pf v j) w;have L:=y.new (o:=Pf v j) w;exact Y6 v j {rfl,zM,A.1,A.2,J,(λp M=>(b.shift G).newt L M (rG _))}
  .exact b.elim
 .exact b.elim
end
end M
end L2
namespace L2
open PySem PySem.Spec PyProof.Rows
section
def Gc(I:↑1)(e:H a=some (.frz o (.ins C dx fs))): ∃j,ObjM s.heap a dx C j/\ ∀f,RelO (fs.lookup f) (j f):=by
 obtain⟨_,d,z,ne,ob,j,n,r,q⟩:=(I.hok a _ e)
 exact Z3 j ⟨ob,n,ne⟩ r
def ZO(I:↑1)(e:H a=some (.frz o (.ins C dx fs)))(c:Cls X.K C)(n:NoAttr X.K C f)(l:fs.lookup f=some v)
  (h: ∀u m,Inv X pins σ H m->RelV v u->Q u m):wpAny ↑5 A (getAttr (.ref a) f b) Q E s:=by
 refine(Gc I e).a λB O r=>?_;refine(RelO.some_of (by rw[<-l];exact r f)).a λu q j=>?_;exact (by
   refine O.look.a λD J y=>?_;exact PySem.W.get_value (I.kIn) J (PySem.W.plainGet_of (c.get f)).1 (PySem.W.findObj_own (c.hd) n rfl (by rw[y,q])) ((by
     cases v with
     |non=>subst j;rfl
     |bl b=>subst j;rfl
     |int i=>obtain⟨t,e⟩:=j;subst e;rfl
     |str x=>obtain⟨t,e⟩:=j;subst e;rfl
     |byt b=>obtain⟨t,e⟩:=j;subst e;rfl
     |flt b=>obtain⟨t,e⟩:=j;subst e;rfl
     |ref a=>subst j;rfl
     |ty n=>subst j;rfl)) (h u _ (I.tok _) j))
def ZP(I:↑1)(e:H a=some (.frz o (.ins C dx fs)))(c:Cls X.K C)(k:Meth X.K C m g)(l:fs.lookup m=none)
  (h:Q (.ref g,[.ref a]) s):wpAny ↑5 A (getMethod (.ref a) m pl) Q E s:=by
 refine(Gc I e).a λj O r=>?_;have b:=RelO.none_of (by rw[<-l];exact r m);exact Mc I.kIn O (c.get m) k.at_ k.fn b h
def Inv.freeze(I:↑1)(e:H a=some (.ins C dx fs)):Inv X pins σ (yP H a (.frz (PySem.W.instObj C dx) (.ins C dx fs))) s:=by
 obtain⟨d,z,ne,ob,b,n,r,q⟩:=(I.hok a _ e)
 exact I.write (by rw[e];exact True.intro) (.inl rfl) (λ_ _ _ q=>q) {_,ob} {ob,by rw[zH ne];exact d,z,ne,ob,b,n,r,q}
end
namespace M
structure OC(K:O0)(c:Str)(C:Addr):Prop where
 ns:PySem.W.nsIn K mainGlobals c=some (some (.ref C))
 nm:(PySem.W.clsIn K C).map (·.name)=some c
 cl:Cls K C
theorem OC.eq{K:O0}(o:OC K c C)(h:PySem.W.nsIn K mainGlobals c=some (some (.ref C'))):C'=C:=by have:=o.ns;rw[h]at this;cases this;rfl
section
variable{a:Expr}{g:AX}{pos apos p:Pos}
noncomputable def EA(cs:D0)(a:Str):Er->Sto->R Er
 |.val (.obj c ns ds),S=>if c∈cs then(match (ns.zip ds).lookup a with |some d=>.ok (.val d) S|none=>.no)else .no
 |_,_=>.no
theorem OS{K:O0}: ∀{j:D0}{ds}{vs},DenL K α H ds vs->(j.zip ds).lookup fld=some d-> ∃v,(j.zip vs).lookup fld=some v/\Den K α H d v
 |[],_,_,_,h=>by simp at h
 |n::j,[],_,_,h=>by simp at h
 |n::j,x::ds,vs,l,h=>by
  refine l.uncons.b λv r k a m=>?_;subst k;rw[į,Ġ]at h;rw[į];by_cases e:fld==n
  .rw[e]at h;cases h;exact{v,by rw[Ġ,e],a}
  .have e:(fld==n)=false:=by simpa using e
   rw[e]at h;obtain⟨w,b,c⟩:=OS m h;exact{w,by rw[Ġ,e];exact b,c}
def Wy(T: ∀c∈cs, ∃C,OC X.K c C/\NoAttr X.K C fld)(w:zS X W e f)(D:attributeBase e fld X.env (eval e X.env)=eval e X.env:=by rfl):zS X W (.Attribute e fld pos) (λρ S=>(f ρ S).bind (EA cs fld)):=by
 refine w.a λt w k=>?_;refine{λσ H Q=>t σ H λx j=> ∃a o C m fs v,x=.ref a/\j a=some (.frz o (.ins C m fs))/\Cls X.K C/\NoAttr X.K C fld/\fs.lookup fld=some v/\Q v j,λpins s σ H Q I h=>?_,λα ρ S σ H Q G sl q=>k α ρ S σ H _ G sl (q.bind λu r S1 N j e1 F Z E b=>?_)}
 .refine (Attribute_any_ (xV (w pins s σ H _ I h) λu s1 z0=>?_) (by rw[arm_eval_Attribute,D]));refine z0.b λx j I1 rx z0=>?_;refine z0.u λa o C m fs v z0=>?_;refine z0.e λex ea c n l q=>?_;subst ex;obtain rfl:u=Value.ref a:=rx;exact ZO I1 ea c n l λu' s2 M A=>(Z2 v j M A q)
 .replace b:=b.shift F
  unfold EA at b;split at b
  .rename_i c ns ds;split at b
   .rename_i O;split at b
    .rename_i d hd;refine(Ci E.1).q λa C m vs o V=>V.e λac U Y h3 h4 J=>?_;subst ac;refine(T c O).a λC' y P=>?_;cases y.eq Y;refine(OS J hd).a λv L B=>?_;exact XV a o C m _ v {rfl,U,y.cl,P,L,Post.val b Z B}
    .exact b.elim
   .exact b.elim
  .exact b.elim
def zBI(K:O0)(a:Str):Sp:=λvs H Q _=> ∃x C b fs v,vs=[.ref x,v]/\H x=some (.ins C b fs)/\Cls K C/\NoAttr K C a/\fs.length<1000/\Q .non (yP H x (.ins C b (DO a v fs)))
noncomputable def Jq(c a:Str):Er->Sto->R Er
 |.val d,S=>.ok (.val (.obj c [a] [d])) S
 |_,_=>.no
def Ph(m:Str)(l:List (Str×↑13)):Er->Option ↑13
 |.val (.obj c ns _)=>if m∈ns then none else l.lookup c
 |_=>none
noncomputable def NJ(m:Str)(n:Nat)(l:List (Str×(List MV->Sto->R Er)))(f:AX)(a:Rho->Sto->R (List Er))(ρ:Rho)(S:Sto):R Er:=(f ρ S).bind λp S=>match Ph m l p with
 |some F=>(a ρ S).bind λr S=>zC n F (p::r) S
 |none=>.no
theorem lookup_mem{β:Type}{b:β}: ∀{l:List (Str×β)},l.lookup c=some b->(c,b)∈l
 |[],h=>by simp at h
 |(d,x)::l,h=>by
  rw[Ġ]at h;by_cases e:c==d
  .rw[e]at h;cases h;have:=by simpa using e
   rw[this];exact mF0
  .have e:(c==d)=false:=by simpa using e
   rw[e]at h;exact mO _ (lookup_mem h)
theorem OT{β:Type}: ∀{j:D0}{vs:List β},m∉j->(j.zip vs).lookup m=none
 |[],_,_=>by simp
 |n::j,[],_=>by simp
 |n::j,v::vs,h=>by
  rw[į,Ġ];have e:(m==n)=false:=by have:m≠n:=λz=>h (by rw[z];exact mF0);simpa using this
  rw[e];exact OT λz=>h (mO _ z)
def MtOk(X:Cx)(m:Str)(k n:Nat)(c:Str)(F:↑13):Prop:= ∃C a b ps,OC X.K c C/\Meth X.K C m a/\FnOk X.prog X.w X.K X.mg X.base rE k a b ps (KR X.g n F)/\Binds X.K b ps []
def OU{pl:Sem Bool}(T: ∀q∈l,MtOk X m k n q.1 q.2)(hr:Room k X.A)(G:zS X W o f)(P:KQ X W (e::es) af)
  (hst:q9 X e es:=by rfl) (hpl:Q2 X pos es:=by rfl)
  (ht:eval (.Call (.Attribute o m apos) (e::es) [] pos) X.env=(do
   let ov <-eval o X.env
   standAt apos.atName
   let (f,first) <-holding [ov] (getMethod ov m pl)
   callWith pos f first (backTo pos (starEach (e::es) X.env)) (backToKw pos (keywordEach [] X.env))):=by rfl):
  zS X W (.Call (.Attribute o m apos) (e::es) [] pos) (NJ m n l f af):=by
 refine G.a λto G ko=>?_;refine P.a λta P ka=>?_;refine{λσ H Q=>to σ H λx y=> ∃a ob C E fs g B ps O,x=.ref a/\y a=some (.frz ob (.ins C E fs))/\Cls X.K C/\Meth X.K C m g/\fs.lookup m=none/\FnOk X.prog X.w X.K X.mg X.base rE k g B ps O/\Binds X.K B ps []/\ta σ y λvs L=>O (x::vs) L Q E0,λpins s σ H Q I h=>?_,λα U S σ H Q wd sl q=>ko α U S σ H _ wd sl (Post.bind q λu r S1 M y e1 x1 w1 d1 j=>?_)}
 .refine PySem.W.methodCall_KW (xV (G pins s σ H _ I h) λu s1 z0=>?_) ht;refine z0.b λx y I1 rx z0=>?_;refine z0.x λa ob C E fs g B ps O z0=>?_;refine z0.t λex ea c D l F J q=>?_;subst ex;obtain rfl:u=Value.ref a:=rx;refine ZP I1 ea c D l ?_;refine PySem.W.callWith_K I.ok.mod.kin D.kp (xV (P pos pins s1 σ y _ I1 q) λus s2 ⟨vs,L,Y,r,N⟩=>{Y.kIn,?_}) hst hpl;exact Me (vs:=.ref a::vs) F hr J .nil Mn Y (.cons rfl r) (by rw[aN];exact N)
 .unfold Ph at j
  cases r with
  |new ds=>exact j.elim
  |val d=>
   cases d with
   |obj c ns ds=>
    dsimp only at j;by_cases v:m∈ns
    .rw[iP v]at j;exact j.elim
    .rw[iN v]at j
     cases z:l.lookup c with
     |none=>rw[z]at j;exact j.elim
     |some F=>
      rw[z]at j;dsimp only at j;refine(Ci d1.1).q λa C E vs ob V=>V.e λac h1 h2 h3 h4 h5=>?_;subst ac;refine(T _ (lookup_mem z)).j λC' g B ps a0=>a0.g λoc D hF J=>?_;cases oc.eq h2;refine XL a ob C E _ g B ps _ {rfl,h1,oc.cl,D,OT v,hF,J,ka M U S1 σ y _ w1 (sl.ext x1) ?_};refine(Post.shift x1 j).bind λus rs S2 aa L e2 Z w2 d2 N=>?_;exact IU Z w2 (ArgsE.cons (DenE.val (d1.1.ext Z)) (λds b er=>by cases er) d2) N
   |_=>exact j.elim
end
section
variable(P:Ŏ)(w:World)(K:O0)(mg:G0)(base:Heap)
def zEA(x a:Str):Prop:= ∃C j c b,OC K x C/\NoAttr K C a/\Mk K C j/\FnOk P w K mg base rE 1 j c ["self",b] (zBI K a)/\Binds K c ["self",b] []/\mg x=some (.ref C)
def MtB(m:Str)(k n:Nat)(l:List (Str×↑13)):Prop:= ∀q∈l, ∃C a b ps,OC K q.1 C/\Meth K C m a/\FnOk P w K mg base rE k a b ps (KR ⟨K,mg,P,w⟩ n q.2)/\Binds K b ps []
def FlB(cs:D0)(a:Str):Prop:= ∀c∈cs, ∃C,OC K c C/\NoAttr K C a
end
section
variable{pos p:Pos}{x:Str}
def OV(B:zEA X.prog X.w X.K X.mg X.base x fld)(hr:Room 2 X.A)(Z:Gl X x)(m:zS X W e f)(E:(x==("__debug__"))=false:=by decide)
  (hs:starEach [e] X.env=(false,eval e X.env)::starEach [] X.env:=by rfl) (hpl:(backTo pos (starEach [] X.env)).any (·.1)=false:=by rfl):zS X W (.Call (.Name x p) [e] [] pos) (λρ S=>(f ρ S).bind (Jq x fld)):=by
 refine B.j λC fi fd aa k=>k.e λJ na mk F P hm=>?_;exact (by
   refine m.a λt m kk=>?_;refine{λσ H Q=>Zz C (zBI X.K fld) [] E0 (Zy t zCG) σ H λy D=> ∃x a v,y=.ref x/\D x=some (.ins C a [(fld,v)])/\Q (.ref x) (yP D x (.frz (PySem.W.instObj C a) (.ins C a [(fld,v)]))),λpins s σ H Q I h=>?_,λα ρ S σ H Q wd sl q=>kk α ρ S σ H _ wd sl (q.bind λu r S1 ab T e1 x1 O U b=>?_)}
   .refine xV (Tc mk F hr Z hm P .nil Mn (UL m Ca hs) E hs hpl pins s σ H _ I h) λu s' z0=>?_;refine z0.b λy D I2 Y z0=>?_;refine z0.h λx a v z0=>?_;refine z0.f λex e q=>?_;subst ex;exact Z2 _ _ (I2.freeze e) Y q
   .replace b:=b.shift x1
    unfold Jq at b;split at b
    .rename_i d;intro y a hy j G;refine{y,C,a,[],u,rfl,zM,J.cl,na,by decide,rfl,y,a,u,rfl,zM,?_};rw[El,El];have L:=O.newx (o:=.own y) j;have M:=O.new (o:=.own y) j;have c:(yP T a (.own y)) y=none:=by rw[zH (Ne.symm G)];exact hy
     have N:=M.newx (o:=.frz (PySem.W.instObj C a) (.ins C a [(fld,u)])) c;have wb:=M.new (o:=.frz (PySem.W.instObj C a) (.ins C a [(fld,u)])) c;exact Post.val (b.shift (L.trans N)) wb (Fc zM J.ns J.nm rfl (zT ((U.1.ext L).ext N) yA))
    .exact b.elim)
end
def nm_of{K:O0}(e:PySem.W.clsIn K C=some cd)(h:cd.name=c):(PySem.W.clsIn K C).map (·.name)=some c:=by rw[e];exact congrArg some h
section
variable{es:N0}{pos apos:Pos}
def Xb:Er->List Er->Sto->R Er
 |p,[r],S=>match Nt S r with
  |some zs=>RG p S λds=>if ds.length+zs.length<=sizeLine then some (ds++zs)else none
  |none=>.no
 |_,_,_=>.no
def Jr:YV X W Ex Xb:=by
 intro p rs x vs α S G H Q j q D B m a
 match rs,m,a with
 |[],_,a=>exact a.elim
 |_::_::_,_,a=>exact a.elim
 |[r],m,a=>
  have a:Post X.g W j G (match Nt S r with |some s=>RG p S λu=>if u.length+s.length<=sizeLine then some _ else none|none=>.no) Q:=a;split at a
  .rename_i s I;refine(OA m).a λv L C=>?_;subst L;refine(VF q I C).b λb F M A w=>?_;subst M;refine(SS q D B a).o λc E u es N K y o k=>?_;subst N;split at o
   .rename_i J;cases o;exact ZB c b E F {rfl,rfl,K,A,(by rw[y.length,w.length];exact J),k _ (y.append w)}
   .cases o
  .exact a.elim
def Jt(G:zS X W a f)(L:KQ X W (e::es) af)
  (hbase:attributeBase a "extend" X.env (eval a X.env)=eval a X.env:=by rfl)
  (hfew:((backTo pos (starEach (e::es) X.env)).all (λx=>!x.1)&&(backToKw pos (keywordEach [] X.env)).all (λx=>x.1.isSome)
   &&decide ↑3)=true:=by rfl)
  (hline:(apos.endLine==pos.line)=true:=by rfl) (hs:q9 X e es:=by rfl) (hplain:Q2 X pos es:=by rfl):
  zS X W (.Call (.Attribute a "extend" apos) (e::es) [] pos) (λρ S=>(f ρ S).bind λp B=>if wZ p B=true then(af ρ B).bind λrs S2=>Xb p rs S2 else .no):=
 UZ PySem.F.plainAttrs_list PySem.F.slot_list_extend PySem.F.type_list_extend (by
   intro pins s σ H x vs v P Q I K D h;refine h.j λl b xs O k=>k.e λV Y w M T q=>?_;subst V;subst Y;subst K;refine D.one.a λu Z y=>?_;subst Z;subst y;have⟨z,j,n,r,U,e⟩:=I.lstM w;have⟨N,c,J,C,A,E⟩:=I.lstM M;have o:j.toArray.size+c.toArray.size<=sizeLine:=by refine qq sA (qq sA ?_);lia
   have m: ¬(!j.toArray.isEmpty&&Builtin.List.listTooLong (j.toArray.size+c.toArray.size))=true:=by rw[YN o,Bool.and_false];exact xF0
   refine ģ F.slot_list_extend {_,e,rfl} F.entry_list_extend (F.args_list_extend_2 _ _)
    (AutoSeq1.list_extend_list_list_0 l j.toArray n b c.toArray J m (by rw[sA];lia) #[0]) {e,E,?_}
   refine Z2 .non _ (I.lset w e (by simp) (r.append C) ?_) rfl q;rw[lA]
   omega) Jr Cq G L hbase hfew hline hs hplain
end
theorem args_sorted1(a):argsOk "sorted" {[a],[]}:=by unfold argsOk;kernel_rfl
section
variable{X:Cx}{a o i e:Expr}{α:B9}{H:Hp}{pins:L0}{σ:St}{s:Ō}
def W7:MV->Option Key
 |.int i=>some (.inl i)
 |.str x=>some (.inr (pU x))
 |_=>none
def Dc: ∀{k}{k'},W7 k=some k'->KeyD k k'
 |.int i,_,h=>by cases h;exact rfl
 |.str x,_,h=>by cases h;exact rfl
 |.non,_,h=>nomatch h
 |.bl _,_,h=>nomatch h
 |.tup _,_,h=>nomatch h
 |.scr _,_,h=>nomatch h
 |.loc _,_,h=>nomatch h
 |.typ _,_,h=>nomatch h
 |.obj _ _ _,_,h=>nomatch h
def De: ∀{k}{k'}{v},W7 k=some k'->Den X.K α H k v->v=kV k'
 |.int i,_,_,h,d=>by cases h;exact iV d
 |.str x,_,_,h,d=>by cases h;exact sF d
 |.non,_,_,h,_=>nomatch h
 |.bl _,_,_,h,_=>nomatch h
 |.tup _,_,_,h,_=>nomatch h
 |.scr _,_,_,h,_=>nomatch h
 |.loc _,_,_,h,_=>nomatch h
 |.typ _,_,_,h,_=>nomatch h
 |.obj _ _ _,_,_,h,_=>nomatch h
def OW: ∀{k}{u},RelV (kV k) u->(wX X.prog X.w).is k u=true
 |.inl i,_,h=>by obtain⟨t,rfl⟩:=(h: ∃t,_=_);exact KG _ _ i t
 |.inr x,_,h=>by obtain⟨t,rfl⟩:=(h: ∃t,_=_);exact vP _ _ x t
def sM(k:MV):Bool:=(W7 k).isSome
def zEB(ob:ObD X.g α H d (.dic kvs))(c:kvs.all (λp=>sM p.1)=true): ∃ks,DK X H d ks/\DenK X.K α H kvs ks:=by
 rcases ob with⟨ks,h,l⟩|⟨xs,h,l⟩
 .exact(Z3 ks (.inl h) l)
 .cases l with
  |nil=>exact Z3 ([]) (.inr ⟨rfl,h⟩) .nil
  |@cons k nk a d v u fs xs hn e ha hd r l=>
   rw[List.all_cons,aE]at c;obtain⟨j,b⟩:=ê.mp c.1;have:=De b ha;cases j<;>cases this
def lG(S:Sto):Er->Option (Nat×List (MV×MV))
 |.val (.loc l)=>match S[l]? with
  |some (.dic kvs)=>if kvs.all (λp=>sM p.1)=true then some (l,kvs)else none
  |_=>none
 |_=>none
def Ju(m:Wd X.g α S H)(e:lG S r=some (l,kvs))(d:DenX X.K α H r x):
  ∃c ks,x=.ref c/\α[l]? =some c/\S[l]? =some (.dic kvs)/\DK X H c ks/\DenK X.K α H kvs ks/\kvs.all (λp=>sM p.1)=true:=by
 unfold lG at e;split at e
 .rename_i n;refine(bV d).a λc k h=>?_;subst k;split at e
  .rename_i ks a;split at e
   .rename_i b;obtain⟨rfl,rfl⟩:=Prod.mk.inj (è e);refine(zEB (m.obj _ c _ h a) b).a λxs j l=>?_;exact Y6 c xs ⟨rfl,h,a,j,l,b⟩
   .cases e
  .cases e
 .cases e
def Df(a:DK X H d ks):D8 (H d):=by rcases a with z|⟨_,z⟩<;>rw[z]<;>exact trivial
def zEC(X:Cx):TSet:=λo i v H Q=> ∃(ks:List (Key×V))(d:Addr)(k:Key),o=.ref d/\i=kV k/\DK X H d ks/\ks.length<sizeLine/\Q (yP H d (.dK (AD ks k v)))
def TB(p q:Er)(d:MV)(ρ:Rho)(S:Sto):R Rho:=match q with
 |.val k=>match lG S p with
  |some (l,kvs)=>if sM k=true/\kvs.length<1000000 then .ok ρ (S.set l (.dic (putK kvs k d)))else .no
  |none=>.no
 |_=>.no
def Xc(M:zS X W o f)(hi:zS X W i g)
  (ha: ∀v,assign (.Subscript o i pos) X.env v=(do
   let B <-holding [v] (eval o X.env);let D <-holding [v,B] (eval i X.env)
   standAt pos
   holding [v,B,D] (setItem B D v)
   release [v,B,D] []):=by intro _;rfl):Iu X W (.Subscript o i pos) (λd ρ S=>(f ρ S).bind λp L=>(g ρ L).bind λq S2=>TB p q d ρ S2):=by
 refine M.a λto M fo=>?_;refine hi.a λti hi fi=>?_;refine(Z3 _ (Br M hi (show Lv X (zEC X) by
   intro pins s σ H o i v B D u Q I ro ri rv h;refine h.i λE d k ac am j hz q=>?_;subst ac;subst am;subst ro;obtain⟨z,hd,vs,m,dm⟩:=jQ I j;have hl:=Paired.length m;have hp:=HC E k v;refine wpAny_setItem_pairs (OW ri) dm λh' w G=>(Z3 _ ?_ q)
   exact I.write (Df j) (.inl rfl) (λb uo hb eo=>(G.2 b hb).trans eo) (let ⟨q,_,_,hq,_⟩:=w;⟨q,hq⟩) {by lia,hd,_,Cv m _ rv,w}) ha) (λα ρ S σ H d v Q wd sl de q=>fo α ρ S σ H _ wd sl (q.bind λu p L J H1 e1 C w1 d1 Z=>fi J ρ L σ H1 _ w1 (sl.ext C) ((Z.shift C).bind λu2 p2 S2 F H2 e2 A K d2 a=>?_))))
 replace a:=a.shift A
 unfold TB at a;split at a
 .rename_i k;split at a
  .rename_i l aa e;split at a
   .rename_i P;refine(Ju K e (DenX.ext A d1.1)).k λc E V=>V.e λap U hS j Y O=>?_;subst ap;obtain⟨T,y⟩:=ê.mp P.1;refine Y4 E c T rfl (De y d2.1) j ?_ ?_
    .rw[Y.length];exact ä P.2 (fits (à _))
    .have N:=K.writex U j.nf (o:=.dK (AD E T v));exact a σ F _ N (K.write U j.nf (.inl {_,zM,(OR Y (Dc y) ((de.ext C).ext A)).ex0 N.toEx0})) (((sl.ext C).ext A).ext N)
   .exact a.elim
  .exact a.elim
 .exact a.elim
def Pi{KK:Type}[DecidableEq KK]{knd:KeyKind prog w KK}{k:KK}{f:KK->Option ō}(a:knd.is k key=true)(hd:(d==sysModules)=false)(b:s.heap.MapOf knd d f)
  (h:Q (.bool !(f k).isSome) {s with toks:=s.toks+1}):wpAny ↑6 A (compareOp .NotIn key (.ref d)) Q E s:=by
 show wpAny _ _ _ Q E s;refine wB ?_;unfold contains
 try with_reducible refine ð ?_
 refine wB (Ň b.typeIs slot_dict_contains.lookup ?_);show wpAny _ _ _ _ E s
 refine wB (wpAny_callSpecialUnlessNone?_slot b.typeIs slot_dict_contains
  (é slot_dict_contains b.typeIs entry_dict_contains ?_ (args_dict_contains _ _)))
 show wpAny _ _ (dictGet d key >>= _) _ _ s;refine wB (wpAny_dictGet_of a b ?_)
 cases c:f k with
 |some v=>
  rw[c]at h;rw[20];exact wP (Z3 _ rfl (Ċ (wP h)))
 |none=>
  rw[c]at h;rw[20];exact wB (wpAny_pendingKey_other hd (wP (Z3 _ rfl (Ċ (wP h)))))
abbrev W8(X:Cx)(a:Bool):R2:=λx y H Q=> ∃(ks:List (Key×V))(d:Addr)(k:Key),x=kV k/\y=.ref d/\DK X H d ks/\
 Q (.bl (if a=true then !(dL ks k).isSome else(dL ks k).isSome)) H
theorem look_same(r:KV ks vs)(k):(valueAt vs k).isSome=(dL ks k).isSome:=by
 obtain⟨a,b⟩:=MN r k
 cases h:dL ks k with
 |none=>rw[b h];rfl
 |some v=>refine(a v h).a λu e _=>?_;rw[e];rfl
def DR(a:Bool)(p q:Er)(S:Sto):R Er:=match p with
 |.val k=>match lG S q with
  |some (_,kvs)=>if sM k=true then .ok (.val (.bl (if a=true then !(look kvs k).isSome else(look kvs k).isSome))) S else .no
  |none=>.no
 |_=>.no
def Gd:Cj X W (W8 X neg) (DR neg):=by
 intro p q x y α S H Q s A B a;unfold DR at a;split at a
 .rename_i k;split at a
  .rename_i l b e;split at a
   .rename_i D;refine(Ju s e B).k λc m G=>G.e λI _ _ C E _=>?_;subst I;obtain⟨o,j⟩:=ê.mp D;refine Ze m c o (De j A) rfl C ?_;rw[(show (dL m o).isSome=(look b k).isSome by
     obtain⟨w,F⟩:=CO E (Dc j)
     cases h:look b k with
     |none=>rw[F h];rfl
     |some v=>refine(w v h).a λu e _=>?_;rw[e];rfl)];exact Post.val a s (bF _)
   .exact a.elim
  .exact a.elim
 .exact a.elim
def X1(E:zS X W a f)(j:zS X W b g)(m:behindInMarks .In b=false:=by with_unfolding_all rfl):vV X W (.Compare a [.In] [b] pos) (λρ S=>((f ρ S).bind λp B=>(g ρ B).bind λq S2=>DR false p q S2).bind jM):=sG (by intro pins s σ H x y v u Q I D w h;refine h.h λo d k F=>F.g λG J A q=>?_;subst G;subst J;subst w;obtain⟨_,hs,vs,c,C⟩:=jQ I A;refine wpAny_in_of (OW D) hs C.mapOf ?_;refine qq (look_same c k) ?_;exact Z2 (.bl (dL o k).isSome) H (I.kept (λ_ _ z=>z)) rfl q) Gd E j m
def Jy(E:zS X W a f)(j:zS X W b g)(m:behindInMarks .NotIn b=false:=by with_unfolding_all rfl):vV X W (.Compare a [.NotIn] [b] pos) (λρ S=>((f ρ S).bind λp B=>(g ρ B).bind λq S2=>DR true p q S2).bind jM):=sG (by intro pins s σ H x y v u Q I D w h;refine h.h λo d k F=>F.g λG J A q=>?_;subst G;subst J;subst w;obtain⟨_,hs,vs,c,C⟩:=jQ I A;refine Pi (OW D) hs C.mapOf ?_;refine qq (look_same c k) ?_;exact Z2 (.bl !(dL o k).isSome) H (I.kept (λ_ _ z=>z)) rfl q) Gd E j m
end
section
variable{X:Cx}{a b i e:Expr}
def Dg(p:Er)(S:Sto):Bool:=(lG S p).isSome
def TC: ∀{us},KV ks vs->us.length=↑9->(∀(j:Nat) v ,us[j]? =some v-> ∃(k:Key)(x:ō),vs[j]? =some (k,x)/\(wX X.prog X.w).is k v=true)->Vals (ks.map λp=>kV p.1) us:=by
 intro us o
 induction o generalizing us with
 |nil=>intro c _;cases us with
  |nil=>exact .nil
  |cons a b=>simp at c
 |@cons p q ps qs h t ih=>
  intro c m
  cases us with
  |nil=>simp at c
  |cons a b=>
   refine(m 0 a rfl).d λk x e hi=>?_;simp only[getElem?_cons_zero,Option.some.injEq]at e;subst e;rw[ç];refine .cons ?_ (ih (by simpa using c) λj v s=>by simpa using m (j+1) v (by simpa using s));rw[h.1];rcases yD hi with⟨i,t,e1,e2⟩|⟨i,t,e1,e2⟩
   .subst e2;rw[show k=.inl i from e1];exact⟨t,rfl⟩
   .subst e2;rw[show k=.inr i from e1];exact⟨t,rfl⟩
end
section
def Jz(K:PySem.W.KdlSrc prog w "dict" r d n P OK)(G:A.handled=none)(j:OK s.heap)(B:n<=sizeLine)
  (h: ∀(h':Heap) u  acc' ,↑8->ItemsOf P acc' n->Q₁ (.ref h'.objs.size) {s with heap:=h'.push {cls:=.type "tuple",data:=.seq acc'},toks:=u}):
  codeAny ↑6 A (.call (.builtin "tuple.__new__") {[.type "tuple",.ref r],[]}) (wants Q₁ E) s:=by
 refine codeAny_of_tree ?_;show wpAny _ A.in1 _ _ _ s;refine wB (wpAny_of_eq (F.newCall_tuple_1 _) (wP {ġ F.plain_tuple_new _,Ď F.entry_tuple_new ?_}));rw[ď F.plain_tuple_new _];have y:=sub_tuple_self;have q:=init_tuple_lookup;have C:=madeHere_tuple;have m:s.TypeIs (.ref r) "dict":=K.type s j
 wp_walk using Č m,PySem.W.kdu_collect (A:=A.in1) K G j B
 intro h' u a D c;show wpAny _ _ (Builtin.Tuple.tupleExact a.toList.toArray >>= λv=>ret v) _ _ _;unfold Builtin.Tuple.tupleExact;refine wB (Ā ?_ (by show a.toList.toArray.size<=sizeLine;simp only[Array.toArray_toList];rw[c.1];exact B));refine wP ?_;have e:a.toList.toArray=a:=by simp
 rw[e];exact h h' u a D c
def OX(K:PySem.W.KdlSrc prog w "dict" r d n P OK)(B:A.handled=none)(u:OK s.heap)(C:n<=sizeLine)
  (hQ: ∀(h':Heap) v  acc' ,↑8->ItemsOf P acc' n->Q (.ref h'.objs.size) {s with heap:=h'.push {cls:=.type "tuple",data:=.seq acc'},toks:=v}):
  wpAny ↑6 A (call (.type "tuple") [.ref r]) Q E s:=by
 refine callType_codes (Q₁:=λj a=>a.TypeIs j "tuple"/\Q j a) F.called_tuple (F.typeCall_tuple_1 _) F.entry_object_init
  (Jz K B u C λh' v q y m=>{(Z3 _ (á _ rfl) rfl),hQ h' v q y m}) λj a c=>?_
 exact{c.1,F.args_object_init_2 j _,object_init_meets F.called_tuple.init.lookup F.called_tuple.made ↑15 prog w A.in1 _ a {c.1,rfl,c.2}}
theorem Dh(K:PySem.W.KdlSrc prog w "dict" r d n P OK)(F:A.handled=none)(u:OK s.heap)(v:n<64)(H: ∀j:Array ō,ItemsOf P j n->IntsAre j.toList ns)
  (h: ∀(h':Heap) q  out  m ,↑8->IntsAre out.toList m->m.Perm ns->m.Pairwise (· <=·)-> ∀ vs ,Q (.ref h'.objs.size) {s with heap:=sortedHeap (h'.push (seqObj "list" vs.toArray 0)) h'.objs.size vs out,toks:=q}):
  wpAny ↑6 A (call (.builtin "sorted") [.ref r]) Q E s:=by
 refine Calls.call_function_entry kind_sorted plain_sorted entry_sorted (args_sorted1 _) ?_;refine wB (wP ?_);refine wB (PySem.W.kdu_collect K F u (by rw[ý];lia) λh' q j D a=>?_);have G:j.toList.length=n:=by rw[î];exact a.1
 refine wB (wpAny_newList ?_ (by rw[ý];lia));have c:(h'.push (seqObj "list" j.toList.toArray 0)).get? h'.objs.size=some _:=á _ rfl;show wpAny _ _ _ _ _ {s with heap:=h'.push _,toks:=q};refine wB (ð (é slot_list_sort (Z3 _ c rfl) entry_list_sort (list_sort_tree c (H j a) (by rw[G];exact v) λout m y C B=>(Z3 _ rfl ?_)) (args_list_sort _)));refine wP (Z3 _ rfl (h h' q out m D y C B j.toList))
end
section
variable{W:XW}{α:B9}
theorem Ka:CallR X (.type "tuple") (λxs H Q=> ∃d ks,xs=[.ref d]/\DK X H d ks/\X.calm=true/\ ∀l,H l=none->Q (.ref l) (yP H l (.tup (ks.map λp=>kV p.1)))):=by
 intro pins s σ H xs K Q I r h;refine h.l λd ks k A F q=>?_;subst k;refine(vals1 r).a λu M G=>?_;subst M;subst G;obtain⟨z,hd,vs,m,B⟩:=jQ I A;obtain⟨J,w⟩:=B.dictAt;have L:=Paired.length m;refine OX (PySem.W.kdl_dict hd) (I.ok.hd F) w #[0] λh' y c C a=>?_;have D:Vals _ c.toList:=TC m (by rw[î];exact a.1) λj v e=>a.2 j v (by rw[<-ñ];exact e);have I1:Inv X pins σ H {s with heap:=h',toks:=y}:=I.kept C
 have E:Inv X pins σ (yP H h'.objs.size (.tup _)) {s with heap:=h'.push {cls:=.type "tuple",data:=.seq c},toks:=y}:=
  I1.laid (λb o e=>hP0 _ e) (à _) ({by rw[lM];exact z,_,D,by have:=IsTup.new h' c;simpa using this})
 exact Z2 (.ref h'.objs.size) _ E rfl (q _ (I1.hok.fresh (à _)))
def TD:List Er->Sto->R Er
 |[r],S=>match lG S r with |some (_,kvs)=>.ok (.val (.tup (kvs.map (·.1)))) S|none=>.no
 |_,_=>.no
def Xd(o:X.calm=true):dH X W (λxs H Q=> ∃d ks,xs=[.ref d]/\DK X H d ks/\X.calm=true/\ ∀l,H l=none->Q (.ref l) (yP H l (.tup (ks.map λp=>kV p.1)))) TD:=by
 intro rs vs α S H Q b d a;unfold TD at a;split at a
 .split at a
  .rename_i n m e;refine(dI d).a λv A j=>?_;subst A;refine(Ju b e j).k λc ks k=>k.e λB y w q s _=>?_;subst B;exact Zo c ks rfl q o (λl u=>Post.newt a b u (CN s))
  .exact a.elim
 .exact a.elim
def JF:List Er->Sto->R Er
 |[r],S=>match lG S r with |some (_,kvs)=>.ok (.new (kvs.map (·.1))) S|none=>.no
 |_,_=>.no
def Pj(o:X.calm=true):dH X W (λxs H Q=> ∃d ks,xs=[.ref d]/\DK X H d ks/\X.calm=true/\ ∀l,H l=none->Q (.ref l) (yP H l (.lst (ks.map λp=>kV p.1)))) JF:=by
 intro rs vs α S H Q b d a;unfold JF at a;split at a
 .split at a
  .rename_i n m e;refine(dI d).a λv A j=>?_;subst A;refine(Ju b e j).k λc ks k=>k.e λB y w q s _=>?_;subst B;exact Zo c ks rfl q o (λl u=>Post.newl a b u (CN s))
  .exact a.elim
 .exact a.elim
theorem ZQ: ∀{ds}{j},intsOf ds=some j->j.length=↑11
 |[],j,h=>by cases h;rfl
 |x::ds,j,hi=>by
  cases x<;>first |(cases hi;done)|skip
  unfold intsOf at hi
  cases zz:intsOf ds with
  |none=>rw[zz]at hi;cases hi
  |some ms=>rw[zz]at hi;cases hi;rw[lC,lC,ZQ zz]
theorem Kb:CallR X (.builtin "sorted") (λxs H Q=> ∃d ks ds B α,xs=[.ref d]/\DK X H d ks/\intsOf ds=some B/\DenL X.K α H ds (ks.map λp=>kV p.1)/\↑11<64/\X.calm=true/\ ∀p,H p=none->Q (.ref p) (yP H p (.lst ((PySem.W.sortI B).map V.int)))):=by
 intro pins s σ H xs Y Q I r h;refine h.q λd ks ds B α k=>k.w λac M hi y hz S q=>?_;subst ac;refine(vals1 r).a λu am Z=>?_;subst am;subst Z;obtain⟨z,hd,vs,c,N⟩:=jQ I M;obtain⟨ep,A⟩:=N.dictAt;have hl:=Paired.length c;have m:↑9<64:=by have:=y.length;rw[lM]at this;lia
 refine Dh (PySem.W.kdl_dict hd) (I.ok.hd S) A m (λU a=>ints_of hi y (TC c (by rw[î];exact a.1) λj v e=>a.2 j v (by rw[<-ñ];exact e))) λh' P out J O E F L Y=>?_;have T:=PySem.W.eq_sortI F L;subst T;have I1:Inv X pins σ H {s with heap:=h',toks:=P}:=I.kept O;obtain⟨e,G⟩:=sortedHeap_at (á _ rfl);refine Z2 (.ref h'.objs.size) _ (I1.laid (λb o C=>?_) (à _) (show ObjOk X.prog X.w _ _ _ (.lst _)from{?_,_,e,rL E,?_})) rfl (q _ (I1.hok.fresh (à _)))
 .have D:=â C;refine qq (sortedHeap_old (å D) (by rw[size_push'];exact ĸ D)) ?_;exact hP0 _ C
 .have e1:=(rL E).length;have e2:=F.length_eq;have e3:=ZQ hi;have:=ý;rw[lM]
  lia
 .rw[Array.toArray_toList];exact G
def TF(rs:List Er)(S:Sto):R Er:=match rs with
 |[p]=>match lG S p with
  |some (_,kvs)=>if kvs.length<64 then(match intsOf (kvs.map (·.1))with |some ns=>.ok (.new ((PySem.W.sortI ns).map MV.int)) S|none=>.no)else .no
  |none=>.no
 |_=>.no
def Xe(q:X.calm=true):dH X W (λxs H Q=> ∃d ks ds j α,xs=[.ref d]/\DK X H d ks/\intsOf ds=some j/\DenL X.K α H ds (ks.map λp=>kV p.1)/\↑11<64/\X.calm=true/\ ∀p,H p=none->Q (.ref p) (yP H p (.lst ((PySem.W.sortI j).map V.int)))) TF:=by
 intro rs vs α S H Q b d a;unfold TF at a;split at a
 .split at a
  .rename_i n o e;split at a
   .rename_i w;split at a
    .rename_i j hi;refine(dI d).a λv C m=>?_;subst C;refine(Ju b e m).k λc ks k=>k.e λD B A s u _=>?_;subst D;exact Yi c ks _ j (α) {rfl,s,hi,CN u,(by rw[lM];exact w),q,(λp y=>Post.newl a b y (rG _))}
    .exact a.elim
   .exact a.elim
  .exact a.elim
 .exact a.elim
def X2(m:X.calm=true):dH X W (λxs H Q=> ∃(a:Addr)(bs:L1),xs=[.ref a]/\SqL X.K H a (bs.map V.bl)/\X.calm=true/\Q (.bl (bs.any id)) H) Oc:=by
 intro rs vs α S H Q c d b;unfold Oc at b;split at b
 .split at b
  .rename_i bs e;refine(dI d).a λv k j=>?_;subst k
   cases z:xQ S _ with
   |none=>rw[z]at e;cases e
   |some ds=>
    rw[z]at e;refine(oS rfl c z j).b λo q u s l=>?_;subst u;refine Zo o bs rfl ?_ m (Post.val b c (bF _));rw[<-IW e l];exact s
  .exact b.elim
 .exact b.elim
end
section
variable{b:Expr}
def WD:CallR X (.builtin "any") (λxs H Q=> ∃(a:Addr)(bs:L1),xs=[.ref a]/\SqL X.K H a (bs.map V.bl)/\X.calm=true/\Q (.bl (bs.any id)) H):=by
 intro pins s σ H xs U Q I r h;refine h.l λa bs ac M F q=>?_;subst ac;refine(vals1 r).a λu am G=>?_;subst am;subst G;refine(I.list M).c λj E B Y=>?_;have c:j.length=bs.length:=by rw[<-E.length,lM]
 refine PySem.call_any_walk (ĭ B.isList ?_);have L:a≠s.heap.objs.size:=by refine B.isList.a λo N _=>?_;exact å (â N)
 have I1: ∀(h':Heap)(A:Nat),(∀b o,b∉[↑0]->(s.heap.push {cls:=.type "list_iterator",data:=.fields #[.ref a,.int 0 0]}).get? b=some o->h'.get? b=some o)->Inv X pins σ H {s with heap:=h',toks:=A}:=λh' A k=>
  I.kept λb o e=>k b o (by simpa using å (â e)) (hP0 _ e)
 refine Yg (↑0) ([↑0,a]) ([↑0]) j.toArray.size _ _ (λi=>bs.getD i false) {rfl,PySem.Walks.list (by first |exact I.ok.hd F|exact(I.ok.hd F)) _ a L j.toArray,{(Z0 _ (á _ rfl) rfl rfl),B.isList.at λo e=>hP0 _ e},?_,(λh' A k=>?_)}
 .intro i v T S W P D;have w:=by simpa using P
  have hi:i<bs.length:=by rw[<-c];exact(gS.mp w).1
  have J:(bs.map V.bl)[i]? =some (V.bl (bs.getD i false)):=by simp[đ,hi]
  refine(E.get J).a λZ m C=>?_;rw[w]at m;cases m;subst C;exact Ċ D
 .refine(Z2 (.bl _) H (I1 h' A k) ?_ q);congr 1;refine qq sA (qq c ?_)
  have: ∀(l:L1),(List.range l.length).any (λi=>l.getD i false)=l.any id:=by
   intro l;rw[Bool.eq_iff_iff,List.any_eq_true,List.any_eq_true];constructor
   .rintro⟨i,hi,h⟩;have y:=ē.mp hi;exact{l[i],Ľ y,by simpa [đ,y]using h}
   .rintro⟨x,O,h⟩;obtain⟨i,hi,rfl⟩:=getElem_of_mem O;exact{i,ē.mpr hi,by simpa [đ,hi]using h}
  exact this bs
def zED(i j:Int):Prop:=0<=j
instance(i j:Int):Decidable (zED i j):=inferInstanceAs (Decidable (_<=_))
abbrev Xf:=Fj zED λi j=>i / 2 ^ j.toNat
def X3(s:zS X W a f)(o:zS X W b g):zS X W (.BinOp a .RShift b pos) (λρ S=>(f ρ S).bind λp m=>(g ρ m).bind λq S2=>Xf p q S2):=vW (zBG λi j _ _ _ _ _ c q=>
  rshift_int c (by rw[Int.fdiv_eq_ediv_of_nonneg i (Bt _)];exact q)) (OG λi j h=>h) s o
end
end M
end L2
namespace PySem
def HE:typeLookup (.type "list") "keys"=pure none:=am_miss_of_fast (by decide+kernel)
def getAttr?_miss_list
  (C:s.heap.get? a=some o) (y:o.cls=.type "list") (j:o.data=.seq xs k) (hd:o.dict=none) (q:typeLookup (.type "list") name=pure none) (m:(["__module__","__name__","__qualname__","__doc__","__annotations__"]:D0).contains name=false) (I:A.handled=none)
  (h: ∀h' D,↑8->Q none {s with heap:=h',toks:=D}) (hsz:name.length+100<=sizeLine:=by size_fits):
  wpAny ↑6 A (getAttr? (.ref a) name) Q E s:=by
 obtain⟨c,G,H,sl⟩:=o;simp only at y j hd;subst y j hd;obtain⟨K,g,d,D,J⟩:=s;have B: ∀v,(⟨K,g,d,v,J⟩:Ō).TypeIs (.ref a) "list":=λ_=>(Z3 _ C rfl)
 have M:=sub_AttributeError;have L:=F.slot_list_getattribute.lookup;have S:=F.slot_list_getattribute.bind (.ref a);have O:=am_list_getattr_none;unfold getAttr? getAttrBy? getAttrBy
 repeat (any_goals (first |assumption|exact B _|((with_reducible show wpAny _ _ (call _ _ _) _ _ _);refine ģ F.slot_list_getattribute (B _) am_entry_list_getattribute (F.args_list_getattribute_2 _ _) (meets_getattribute_miss_list a xs k sl name _ q m hsz) {C,I,λh' v e u=>?_})|wp_step))
 refine u.there.k λP T N=>?_;rw[20];unfold getattributeRaised
 repeat (any_goals (first |assumption|wp_step))
 exact h _ _ u.keeps
namespace F
def entry_dict_update_loop:entryFor table "dict.update.loop"=some Builtin.«dict.update.loop»:=entryFor_of_tree (by kernel_rfl)
def plain_dict_update_loop:plainId "dict.update.loop"=true:=by decide+kernel
end F
open PyProof.Rows
section
variable{K:Type}[DecidableEq K]{knd:KeyKind prog w K}
def Di(knd:KeyKind prog w K)(h:Heap)(c:K×ō)(v:ō):Prop:= ∃a b,v=.ref a/\IsTup h a #[b,c.2]/\knd.is c.1 b=true
theorem HF{St:Nat->Heap->Prop}(W:Walks prog w A.in1 I fp [I] n P St)(J:D∉fp)(kvs)(hn:kvs.length=n)(hz:n<=sizeLine)
  (hP: ∀i v,P i v-> ∃kv,kvs[i]? =some kv/\Di knd h₀ kv v) (hI:h₀.get? I=none) (hD:h₀.get? D=none):
  ∀ k i  j  s ,n - i=k->i<=n->St i s.heap->s.heap.DictOf knd D (merged [] (kvs.take i))->(∀b o,h₀.get? b=some o->s.heap.get? b=some o)->
   (∀h' G,(∀b o,h₀.get? b=some o->h'.get? b=some o)->h'.DictOf knd D (merged [] kvs)->R (.ok (.ret .none)) {s with heap:=h',toks:=G})->
   codeAny ↑6 A (.builtin "dict.update.loop" {[.ref D,.ref I,rawInt j,.none],[]}) R s:=by
 have L:D≠I:=λe=>J (e▸W.sub _ (mS.mpr rfl));intro k
 induction k with
 |zero=>
  intro i j s hk hi y N c hR;have U:i=n:=by lia
  subst U;refine Ď F.entry_dict_update_loop ?_;refine qq (ď F.plain_dict_update_loop _) ?_;show wpAny _ A.in1 _ _ _ s;refine wB (W.done s _ _ y λh' G q=>?_);show wpAny _ A.in1 _ _ _ _;refine wB (wP ?_);rw[<-hn,take_length]at N;refine wP (hR h' G (λb o e=>?_) ?_)
  .exact q b o (λh=>by rw[mS.mp h,hI]at e;cases e) (c b o e)
  .refine N.m λo es Q B rest=>?_;exact YX o es Q (q D o (λh=>L (mS.mp h)) B) rest
 |succ k ih=>
  intro i j s hk hi y N c hR;have E:i<n:=by lia
  refine Ď F.entry_dict_update_loop ?_;refine qq (ď F.plain_dict_update_loop _) ?_;show wpAny _ A.in1 (pyNext (.ref I) >>= _) _ _ s;refine wB (W.item i s _ _ E y λv h' G S C q=>?_);obtain⟨kv,Y,a,ae,rfl,hT,M⟩:=hP i v S;have m: ∀b o,h₀.get? b=some o->h'.get? b=some o:=λb o e=>q b o (λh=>by rw[mS.mp h,hI]at e;cases e) (c b o e);have X:h'.DictOf knd D (merged [] (kvs.take i)):=by refine N.m λo es Q B rest=>?_;exact YX o es Q (q D o (λh=>L (mS.mp h)) B) rest
  have⟨o,B,hc,nn,K⟩:=hT.keeps m;have T:Shared.TypeIs {s with heap:=h',toks:=G} (.ref a) "tuple":=(Z3 o B hc)
  refine wB (ð ?_);refine wB (wpAny_tryCatch ?_);unfold Builtin.Dict.pairItems;refine wB (Č T ?_);refine qq (iP ↑15) ?_;refine wB ?_;rw[20];refine wB (wpAny_load B ?_);refine qq K ?_;refine wP (wP ?_);rw[20];refine ð ?_;have aa:=merged_length_le [] (kvs.take i);have ab:(kvs.take i).length<=n:=by rw[<-hn];exact List.length_take_le' i kvs
  refine wpAny_dictSet_pairs M X λh2 O H=>?_;have u: ∀b o,h₀.get? b=some o->h2.get? b=some o:=λb o e=>by rw[H.2 b (λh=>by rw[h,hD]at e;cases e)];exact m b o e
  refine wP {ġ F.plain_dict_update_loop _,ih (i+1) (j+1) _ #[0] E (W.frame _ _ _ C λb hb o e=>?_) ?_ u λh3 Z k3 d3=>hR h3 Z k3 d3}
  .rw[H.2 b (λh=>J (h▸hb))];exact e
  .rw[merged_take_succ _ _ _ _ Y];exact O
def LU(K:A.handled=none)(O:s.heap.get? l=some o)(H:o.cls=.type "list")(hd:o.dict=none)(j:o.data=.seq its c)(B:its.size=kvs.length)(hz:its.size<=sizeLine)
  (hP: ∀(i:Nat) v,its[i]? =some v-> ∃T,kvs[i]? =some T/\Di knd s.heap T v)
  (h: ∀h' N,↑8->h'.DictOf knd ↑0 (merged [] kvs)->Q (.ref ↑0) {s with heap:=h',toks:=N}):
  wpAny ↑6 A (call (.type "dict") [.ref l]) Q E s:=by
 refine callType_codes (Q₁:=λD m=>D=.ref ↑0/\m={s with heap:=s.heap.push {cls:=.type "dict",data:=.dict #[]}}) F.kt_called_dict (F.kt_typeCall_dict_1 _) F.entry_dict_init (kt_code_dict_new _ ⟨rfl,rfl⟩) ?_;rintro D m ⟨rfl,rfl⟩;have a:(s.heap.push {cls:=.type "dict",data:=.dict #[]}).DictOf knd ↑0 []:=Heap.DictOf.new s.heap;have y:(s.heap.push {cls:=.type "dict",data:=.dict #[]}).get? l=some o:=hP0 _ O;have M:=â O;refine{a.typeIs,F.args_dict_init_2 _ _,?_};unfold Builtin.«dict.__init__»;refine wB ?_;unfold Builtin.Dict.selfAndRest;refine wB (Ĝ a.typeIs ?_);rw[20];refine wP ?_;show wpAny _ _ (Builtin.Dict.updateFrom "dict.__init__" ↑0 (.ref l) [] .none) _ _ _;unfold Builtin.Dict.updateFrom;refine wB (Č (Z3 o y H) ?_);rw[iP ↑15];refine wB (getAttr?_miss_list y H j hd HE (by decide+kernel) K (λI P J=>?_) (by decide+kernel));rw[iP (show(none:Option ō).isNone=true from rfl)];refine wB (Ě ?_);have q:=J l o y;refine wB (ĭ ⟨o,q,H,c,j⟩ ?_);have W:l≠I.objs.size:=å (â q);have C:↑0<I.objs.size:=by refine a.m λG _ _ u _=>?_;exact â (J _ _ u)
 refine wP {ġ F.plain_dict_update_loop _,HF (Walks.list (by first |exact K|exact K) I.objs.size l W its) ?_ kvs B.symm hz hP ?_ ?_ _ 0 0 _ rfl (zero_le _) {(Z0 _ (á _ rfl) rfl rfl),{o,hP0 _ q,H,c,j}} ?_ ?_ λh' N U L=>?_}
 .rw[mC,mS];rintro(e|e)
  .exact å C e
  .exact å M e.symm
 .cases u:s.heap.get? I.objs.size with
  |none=>rfl
  |some G=>exact absurd (â u) (Nat.lt_asymm C)
 .cases u:s.heap.get? ↑0 with
  |none=>rfl
  |some G=>exact absurd (â u) (Į _)
 .refine a.m λG es S u rest=>?_;exact YX G es S (hP0 _ (J _ _ u)) rest
 .intro b G e;exact hP0 _ (J _ _ (hP0 _ e))
 .exact{rfl,h h' N U L}
end
end PySem
namespace L2
namespace M
open PySem PySem.Spec PyProof.Rows
section
variable{X:Cx}{α:B9}{H:Hp}
def KY(ps:List (Key×V)):List (Key×V):=ps.foldl (λa p=>AD a p.1 p.2) []
inductive PairsV(K:O0)(H:Hp):List V->List (Key×V)->Prop
 |nil:PairsV K H [] []
 |cons {a:Addr} {k:Key} {v:V} {vs ps}:SqT K H a [kV k,v]->PairsV K H vs ps->PairsV K H (.ref a::vs) ((k,v)::ps)
def WF(r:KV ps qs): ∀{as}{bs},KV as bs->KV (ps.foldl (λj p=>AD j p.1 p.2) as) (merged bs qs):=by
 induction r with
 |nil=>intro as bs h;exact h
 |@cons p q ps qs h t ih=>
  intro as bs a;rw[ņ];show KV _ _;rw[h.1];exact ih (Cv a _ h.2)
def pairs_of(I:↑1)(r:PairsV X.K H vs ps): ∀{us},Vals vs us-> ∃j:List (Key×ō),KV ps j/\j.length=us.length/\ ∀(i:Nat) v,us[i]? =some v-> ∃m,j[i]? =some m/\Di (wX X.prog X.w) s.heap m v:=by
 induction r with
 |nil=>intro us h;cases h;exact Z0 ([]) .nil rfl (λi v h=>by simp at h)
 |@cons a k v vs ps hq t ih=>
  intro us h
  cases h with
  |@cons _ u _ us ru rt=>
   subst ru;refine(ih rt).c λj E A D=>?_;refine(I.tuple hq).c λC o q F=>?_;refine(vals2 o).b λy c G b B=>?_;subst G;refine Z0 ((k,c)::j) (.cons ⟨rfl,B⟩ E) (by exact qq lC (qq lC (qq A rfl))) (λi w hw=>?_)
   cases i with
   |zero=>
    cases hw;exact{_,rfl,a,y,rfl,q,OW b}
   |succ i=>exact D i w hw
theorem TH(ps):(KY ps).length<=ps.length:=by
 have: ∀(ps as:List (Key×V)),(ps.foldl (λa p=>AD a p.1 p.2) as).length<=as.length+ps.length:=by
  intro ps
  induction ps with
  |nil=>intro as;exact à _
  |cons p ps ih=>
   intro as;rw[ņ,lC];have:=ih (AD as p.1 p.2);have:=HC as p.1 p.2
   lia
 have:=this ps [];rw[ă,Nat.zero_add]at this;exact this
def Dj{K:O0}(r:PairsV K H vs ps):ps.length=vs.length:=by
 induction r with
 |nil=>rfl
 |cons _ _ ih=>rw[lC,lC,ih]
theorem Kc:CallR X (.type "dict") (λxs H Q=> ∃l vs ps,xs=[.ref l]/\SqL X.K H l vs/\PairsV X.K H vs ps/\X.calm=true/\ ∀d,H d=none->Q (.ref d) (yP H d (.dK (KY ps)))):=by intro pins s σ H xs P Q I r h;refine h.i λl vs ps k C m D q=>?_;subst k;refine(vals1 r).a λu U L=>?_;subst U;subst L;refine(I.list C).c λy j V S=>?_;obtain ⟨o,n,E,c,hd,a⟩:=V;refine(pairs_of I m j).c λO F G J=>?_;have T:=j.length;refine LU (I.ok.hd D) E c hd a (by exact qq sA (qq G rfl)) (by rw[sA];lia) (λi v e=>J i v (by simpa using e)) λh' M A b=>?_;have B:=Dj m;have N:=TH ps;refine Z2 (.ref ↑0) _ (I.laid A (à _) (show ObjOk X.prog X.w _ h' _ (.dK (KY ps))from{by lia,Ĉ.mpr (Ne.symm (å (OM I))),_,WF F .nil,b})) rfl (q _ (I.hok.fresh (à _)))
def sN:List MV->Option (List (MV×MV))
 |[]=>some []
 |.tup [k,v]::r=>if sM k=true then(sN r).map ((k,v)::·)else none
 |_::_=>none
def Ge(ps:Y0):List (MV×MV):=ps.foldl (λa p=>putK a p.1 p.2) []
theorem OY{K:O0}: ∀{ds}{kvs}{vs},sN ds=some kvs->DenL X.K α H ds vs-> ∃ps,PairsV X.K H vs ps/\DenK X.K α H kvs ps
 |[],kvs,vs,e,l=>by cases e;rw[l.isnil];exact{[],.nil,.nil}
 |d::ds,kvs,vs,e,l=>by
  refine l.uncons.b λv r L u q=>?_;subst L;unfold sN at e;split at e
  .cases (by assumption:d::ds=[])
  .rename_i k y G hd;obtain⟨rfl,rfl⟩:=List.cons.inj hd;split at e
   .rename_i m
    cases z:sN ds with
    |none=>rw[z]at e;cases e
    |some ms=>
     rw[z]at e;cases e;refine(OY (K:=K) z q).a λps p1 p2=>?_;refine(bG u).b λa J M hs B=>?_;subst M;refine B.uncons.b λD I N j s=>?_;subst N;refine s.uncons.b λC E O o c=>?_;subst O;have w:=c.isnil;subst w;obtain⟨F,b⟩:=ê.mp m;have A:=De b j;subst A;exact Z3 _ (.cons hs p1) (.cons (Dc b) o p2)
   .cases e
  .cases e
def JG(q:DenK X.K α H kvs ps): ∀{as}{bs},DenK X.K α H as bs->DenK X.K α H (kvs.foldl (λj p=>putK j p.1 p.2) as) (ps.foldl (λj p=>AD j p.1 p.2) bs):=by
 induction q with
 |nil=>exact λh=>h
 |cons hk a l ih=>exact λh=>ih (OR h hk a)
def Gf:List Er->Sto->R Er
 |[r],S=>match (xQ S r).bind sN with |some kvs=>.ok (.val (.loc S.length)) (S++[.dic (Ge kvs)])|none=>.no
 |_,_=>.no
def MP:bootBuiltins "dict"=some (.type "dict"):=by decide+kernel
def Xg(u:X.calm=true):dH X W (λxs H Q=> ∃l vs ps,xs=[.ref l]/\SqL X.K H l vs/\PairsV X.K H vs ps/\X.calm=true/\ ∀d,H d=none->Q (.ref d) (yP H d (.dK (KY ps)))) Gf:=by
 intro rs vs α S H Q b d a;unfold Gf at a;split at a
 .split at a
  .rename_i s e;refine(dI d).a λv k q=>?_;subst k
   cases z:xQ S _ with
   |none=>rw[z]at e;cases e
   |some ds=>
    rw[z]at e;refine(oS rfl b z q).b λw y C B l=>?_;subst C;refine(OY (K:=X.K) e l).a λps p1 p2=>?_;refine Y4 w y ps rfl B p1 u (λp j=>?_);have c:=b.newx (o:=.dK (KY ps)) j;obtain⟨x,A⟩:=b.put (m:=.dic _) j (.inl {_,zM,(JG p2 .nil).ex0 {{[p],rfl},c.tup,c.frz}});exact a _ _ _ x A (DenE.val (oR (by rw[<-b.len,æ (à _),sub_self];rfl)))
  .exact a.elim
 .exact a.elim
end
section
variable{apos pos:Pos}{α:B9}{H:Hp}{σ:St}
def Gg(ks ps:List (Key×V)):List (Key×V):=ps.foldl (λa p=>AD a p.1 p.2) ks
theorem TJ: ∀ ps ks ,(Gg ks ps).length<=ks.length+ps.length
 |[],ks=>à _
 |p::ps,ks=>by
  have j:=TJ ps (AD ks p.1 p.2);have a:=HC ks p.1 p.2;show(Gg (AD ks p.1 p.2) ps).length<=_;rw[lC]
  lia
def A9(X:Cx):V->List V->Hp->VK->Prop:=λx vs H Q=> ∃(ks ps:List (Key×V))(d p:Addr),x=.ref d/\vs=[.ref p]/\d≠p/\DK X H d ks/\DK X H p ps/\ks.length+ps.length<2000000/\Q .non (yP H d (.dK (Gg ks ps)))
theorem Xh:Th X "dict.update" (A9 X):=by
 intro pins s σ H x vs v W Q I P L h;refine h.j λB ps d p k=>k.w λV ac o j G Y q=>?_;subst V;subst ac;refine(vals1 L).a λU am N=>?_;subst am;subst P;subst N;have⟨z,hs,vs,C,J⟩:=jQ I j;have⟨T,m,w,a,u⟩:=jQ I G;have Z:=Paired.length C;have D:=Paired.length a;have y:=ý
 refine call_meetsIn PySem.F.slot_dict_update ((WB pins s σ H (.ref d) _ I rfl (ZX d B rfl j)).1) PySem.F.entry_dict_update (PySem.F.args_dict_update_2 _ _) (meets_dict_update _ d p o m)
  (Zo vs w J u (by rw[y];lia) (λh' A _ E=>?_))
 have K:=TJ ps B;refine Z2 .non (yP H d _) ?_ rfl q;exact I.write (Df j) (.inl rfl) (λb S c O=>(E.2 b c).trans O) (let ⟨q,_,_,M,_⟩:=A;⟨q,M⟩) {by rw[y];lia,hs,_,WF a C,A}
def kP(kvs ps:Y0):List (MV×MV):=ps.foldl (λa p=>putK a p.1 p.2) kvs
def OZ(p:Er)(rs:List Er)(S:Sto):R Er:=match rs with
 |[r]=>match lG S p with
  |some (l,kvs)=>match lG S r with
   |some (m,ps)=>if l≠m/\kvs.length+ps.length<1000000 then .ok (.val .non) (S.set l (.dic (kP kvs ps)))else .no
   |none=>.no
  |none=>.no
 |_=>.no
theorem Xi:YV X W (A9 X) OZ:=by
 intro p rs x vs α S U H Q I j K F N a;unfold OZ at a;split at a
 .rename_i r;split at a
  .rename_i l E G;split at a
   .rename_i m ps D;split at a
    .rename_i L
     cases N with
     |cons dv n1 l1=>
     cases l1;refine(Ju j G F).k λc A k=>k.e λY v O b C _=>?_;subst Y;refine(Ju j D dv.1).k λy q V=>V.e λZ M J u s _=>?_;subst Z;have w:c≠y:=λz=>L.1 (by subst z;exact(List.getElem?_inj (gS.mp v).1 j.nd).mp (v.trans M.symm));have T:=DenK.length C;have P:=DenK.length s;refine ZB A q c y {rfl,rfl,w,b,u,(by lia),?_};have B:=j.writex v b.nf (o:=.dK (Gg A q));exact(Post.shift (K.trans B) a).val (j.write v b.nf (.inl {_,zM,(JG s C).ex0 B.toEx0})) GP
    .exact a.elim
   .exact a.elim
  .exact a.elim
 .exact a.elim
def Xj(s:zS X W o f)(w:KQ X W (e::es) af)
  (hbase:attributeBase o "update" X.env (eval o X.env)=eval o X.env:=by rfl)
  (hfew:((backTo pos (starEach (e::es) X.env)).all (λx=>!x.1)&&(backToKw pos (keywordEach [] X.env)).all (λx=>x.1.isSome)
   &&decide ↑3)=true:=by rfl)
  (hline:(apos.endLine==pos.line)=true:=by rfl) (hs:q9 X e es:=by rfl) (hplain:Q2 X pos es:=by rfl):
  zS X W (.Call (.Attribute o "update" apos) (e::es) [] pos) (λρ S=>(f ρ S).bind λp j=>if Dg p j=true then(af ρ j).bind λrs S2=>OZ p rs S2 else .no):=by
 refine s.a λO s G=>?_;refine w.a λt w k=>?_;refine Z3 _ (WA WB PySem.F.plainAttrs_dict PySem.F.slot_dict_update PySem.F.type_dict_update Xh s w hbase hfew hline hs hplain) (λα ρ S σ H Q K sl q=>G α ρ S σ H _ K sl (q.bind λu p j a y T B D A b=>?_));split at b
 .rename_i v;obtain⟨⟨l,E⟩,v⟩:=ê.mp v;refine(Ju D v A.1).n λc xs U _ _ J _=>?_;subst U;exact{(ZX c xs rfl J),k a ρ j σ y _ D (sl.ext B) ((b.shift B).bind λvs rs S2 m I P C L M N=>Xi p rs _ vs m S2 y I Q a L C (A.1.ext C) M N)}
 .exact b.elim
end
section
theorem Ke:CallR X (.builtin "len") (λxs H Q=> ∃d ks,xs=[.ref d]/\DK X H d ks/\Q (.int ks.length) H):=by intro pins s σ H vs w Q I o h;refine h.b λd ks k c q=>?_;subst k;refine(vals1 o).a λv y a=>?_;subst y;subst a;obtain⟨z,hs,vs,b,j⟩:=jQ I c;have m:=Paired.length b;have u:=ý;refine PySem.call_len_dict hs j #[0] (Z2 (.int ks.length) H ((I.tok _).tok _) (by refine qq m ?_;exact{_,rfl}) q)
def ZR:List Er->Sto->R Er
 |[r],S=>match lG S r with
  |some (_,kvs)=>.ok (.val (.int kvs.length)) S
  |none=>.no
 |_,_=>.no
def Xk:dH X W (λxs H Q=> ∃d ks,xs=[.ref d]/\DK X H d ks/\Q (.int ks.length) H) ZR:=by
 intro rs vs α S H Q j d a;unfold ZR at a;split at a
 .split at a
  .rename_i l o e;refine(dI d).a λv y m=>?_;subst y;refine(Ju j e m).k λc ks k=>k.e λA w u b s _=>?_;subst A;have q:=DenK.length s;refine Z2 c ks rfl b ?_;rw[q];exact Post.val a j (xS _)
  .exact a.elim
 .exact a.elim
end
section
variable{K:Type}[DecidableEq K]
def TSet(knd:KeyKind prog w K)(h:Heap)(a:Addr)(S:K->Bool)(n:Nat)(b:Bool):Prop:=
 ∃o es c t,h.get? a=some o/\o.ExactSet/\o.data=.set es c t/\ElemsOf knd es.toList/\(∀k,S k=true↔ ∃e∈es.toList,knd.is k e.2=true)
  /\es.size<scanBound/\t.fits es.size=true/\es.size=n/\t.led=b/\(es.size=0\/t.plain=false)/\(es.toList.map (·.2)).Pairwise (λx y=> ∀k,knd.is k x=true-> ¬knd.is k y=true)
end
def StrT(val:Nat->Key)(i:Nat)(v:ō):Prop:= ∃x t,val i=.inr x/\v=.str x t
def StrT.is(h:StrT val i v):(wX P w).is (val i) v=true/\v.scannable=true/\plainKind v=false:=by refine h.d λx t e a=>?_;subst a;rw[e];exact{vP P w x t,rfl,rfl}
def SetAt(h:Heap)(D:Addr)(es:K0)(a:Nat)(t:SetTable):Prop:= ∃o,h.get? D=some o/\o.ExactSet/\o.data=.set es a t/\t.fits es.size=true
def SetAt.keep(x:SetAt h D es ep t)(m: ∀o,h.get? D=some o->h'.get? D=some o):SetAt h' D es ep t:=by refine x.a λo a r=>?_;exact Z3 o (m o a) r
section
theorem Pk:CallR X (.type "dict") (λxs H Q=> ∃d ks,xs=[.ref d]/\DK X H d ks/\ ∀p,H p=none->Q (.ref p) (yP H p (.dK ks))):=by intro pins s σ H xs A Q I r h;refine h.b λd ks k m q=>?_;subst k;refine(vals1 r).a λu C v=>?_;subst C;subst v;obtain⟨y,hs,vs,j,hd⟩:=jQ I m;have B:=Paired.length j;refine kt_call_dict hs hd #[0] λh' c a=>?_;refine Z2 (.ref ↑0) _ (I.laid (λb o e=>(a.2 b (å (â e))).trans (hP0 _ e)) (à _) (show ObjOk X.prog X.w _ h' _ (.dK ks)from{y,Ĉ.mpr (Ne.symm (å (OM I))),_,j,c})) rfl (q _ (I.hok.fresh (à _)))
def Dk:List Er->Sto->R Er
 |[r],S=>match lG S r with |some (_,kvs)=>.ok (.val (.loc S.length)) (S++[.dic kvs])|none=>.no
 |_,_=>.no
def X4:dH X W (λxs H Q=> ∃d ks,xs=[.ref d]/\DK X H d ks/\ ∀p,H p=none->Q (.ref p) (yP H p (.dK ks))) Dk:=by
 intro rs vs α S H Q b d a;unfold Dk at a;split at a
 .split at a
  .rename_i l j e;refine(dI d).a λv D u=>?_;subst D;refine(Ju b e u).k λc ks k=>k.e λE C B w y _=>?_;subst E;refine Z2 c ks rfl w (λp s=>?_);have q:=b.newx (o:=.dK ks) s;obtain⟨x,A⟩:=b.put (m:=.dic j) s (.inl {_,zM,y.ex0 {{[p],rfl},q.tup,q.frz}});exact a _ _ _ x A (DenE.val (oR (by rw[<-b.len,æ (à _),sub_self];rfl)))
  .exact a.elim
 .exact a.elim
end
section
variable{apos pos:Pos}
def rSX(X:Cx):V->List V->Hp->VK->Prop:=λx vs H Q=> ∃(ks:List (Key×V))(d:Addr)(k:Key)(y:V),x=.ref d/\vs=[kV k,y]/\DK X H d ks/\ks.length<sizeLine/\(∀v,dL ks k=some v->Q v H)/\(dL ks k=none->Q y (yP H d (.dK (AD ks k y))))
theorem X5:Th X "dict.setdefault" (rSX X):=by
 intro pins s σ H x vs v us Q I Y O h;refine h.j λj d k y V=>V.e λac am m hz G U=>?_;subst ac;subst am;refine(vals2 O).b λu1 S ap T C=>?_;subst ap;subst Y;have E:=(WB pins s σ H (.ref d) _ I rfl (ZX d j rfl m)).1;obtain⟨_,hs,ws,A,N⟩:=jQ I m;have hl:=Paired.length A;obtain⟨D,K⟩:=MN A k;have hp:=HC j k y;refine é PySem.F.slot_dict_setdefault E PySem.F.entry_dict_setdefault ?_ (PySem.F.args_dict_setdefault_3 _ _ _);refine wB ?_;refine wB (Ĝ E ?_);refine wP ?_;show wpAny _ _ (if _=true then _ else _) _ _ s;refine qq (iN (by rw[hs];exact xF0)) ?_;refine wB (kt_dictSetDefault_pairs (OW T) N (λu B=>?_) (λM h' c w=>?_) #[0])
 .cases a:dL j k with
  |some v=>
   refine(D v a).a λZ e J=>?_;rw[B]at e;cases e;exact wP {u,rfl,v,H,I.tok _,J,G v a}
  |none=>rw[K a]at B;cases B
 .cases a:dL j k with
  |some v=>
   refine(D v a).a λZ e _=>?_;rw[M]at e;cases e
  |none=>
   exact wP {S,rfl,y,_,I.write (o:=.dK _) (Df m) (.inl rfl) (λb uo L W=>(w.2 b L).trans W) (let ⟨q,_,_,P,_⟩:=c;⟨q,P⟩) {by lia,hs,_,Cv A _ C,c},C,U a}
def ZS(p:Er)(k y:MV)(a:Sto):R Er:=match lG a p with
 |some (l,kvs)=>if sM k=true/\kvs.length<1000000 then(match look kvs k with
  |some d=>.ok (.val d) a
  |none=>.ok (.val y) (a.set l (.dic (putK kvs k y))))else .no
 |none=>.no
def Pl(p:Er)(rs:List Er)(S:Sto):R Er:=match rs with
 |[.val k,r]=>(kM r S).bind λy a=>ZS p k y a
 |_=>.no
def X6:YV X W (rSX X) Pl:=by
 intro p rs x vs α S N H Q w wd x0 U C a
 match rs,C,a with
 |[],_,a=>exact a.elim
 |[.val _],_,a=>exact a.elim
 |.new _::_,_,a=>exact a.elim
 |.val _::_::_::_,_,a=>exact a.elim
 |[.val k,r],C,a=>
  cases C with
  |cons dk n1 l1=>
   cases l1 with
   |cons d n2 l2=>
    cases l2;refine(dP wd x0 d).i λd' S' α' T F O s I=>?_;have a:Post X.g W w N ((kM r S).bind λy Y=>ZS p k y Y) Q:=a;rw[T]at a;have a:Post X.g W w N (ZS p k d' S') Q:=a;unfold ZS at a;split at a
    .rename_i l u G;split at a
     .rename_i J
      have E:DenX X.K α' H p x:=by
       cases p with
       |val m=>exact Den.ex0 O U
       |new ds=>cases G
      refine(Ju s G E).k λc ks V=>V.e λac A hS b D _=>?_;subst ac;obtain⟨Z,j⟩:=ê.mp J.1;obtain⟨M,g2⟩:=CO D (Dc j);have P:=De j (Den.ex0 O dk.1);subst P;refine ZB ks c Z _ {rfl,rfl,b,?_,(λv o=>?_),(λo=>?_)}
      .rw[D.length];exact ä J.2 (fits (à _))
      .cases q:look u k with
       |some d2=>
        refine(M d2 q).a λv' B L=>?_;rw[B]at o;cases o;rw[q]at a;exact(Post.shift F a).val s L
       |none=>rw[g2 q]at o;cases o
      .cases q:look u k with
       |some d2=>refine(M d2 q).a λv' B L=>?_;rw[B]at o;cases o
       |none=>
        rw[q]at a;exact(Post.shift (F.trans (s.writex A b.nf)) a).val (s.write A b.nf (.inl {_,zM,(OR D (Dc j) I).ex0 (s.writex A b.nf).toEx0})) (I.ext (s.writex A b.nf))
     .exact a.elim
    .exact a.elim
def X7(s:zS X W o f)(w:KQ X W (e::es) af)
  (hbase:attributeBase o "setdefault" X.env (eval o X.env)=eval o X.env:=by rfl)
  (hfew:((backTo pos (starEach (e::es) X.env)).all (λx=>!x.1)&&(backToKw pos (keywordEach [] X.env)).all (λx=>x.1.isSome)
   &&decide ↑3)=true:=by rfl)
  (hline:(apos.endLine==pos.line)=true:=by rfl) (hs:q9 X e es:=by rfl) (hplain:Q2 X pos es:=by rfl):
  zS X W (.Call (.Attribute o "setdefault" apos) (e::es) [] pos) (λρ S=>(f ρ S).bind λp j=>if Dg p j=true then(af ρ j).bind λrs S2=>Pl p rs S2 else .no):=by
 refine s.a λO s G=>?_;refine w.a λt w k=>?_;refine Z3 _ (WA WB PySem.F.plainAttrs_dict PySem.F.slot_dict_setdefault PySem.F.type_dict_setdefault X5 s w hbase hfew hline hs hplain) (λα ρ S σ H Q K sl q=>G α ρ S σ H _ K sl (q.bind λu p j a y T B D A b=>?_));split at b
 .rename_i v;obtain⟨⟨l,E⟩,v⟩:=ê.mp v;refine(Ju D v A.1).n λc xs U _ _ J _=>?_;subst U;exact{(ZX c xs rfl J),k a ρ j σ y _ D (sl.ext B) ((b.shift B).bind λvs rs S2 m I P C L M N=>X6 p rs _ vs m S2 y I Q a L C (A.1.ext C) M N)}
 .exact b.elim
end
section
abbrev AG:=Fj (λ_ _=>True) λi j=>Builtin.bitAnd i j
abbrev Kf:=Fj (λ_ _=>True) λi j=>Builtin.bitOr i j
def Xl(m:zS X W a f)(c:zS X W b g):zS X W (.BinOp a .BitAnd b pos) (λρ S=>(f ρ S).bind λp j=>(g ρ j).bind λq S2=>AG p q S2):=vW (Ss λ_ _ _ _ _ _ _ q=>and_int q) VE m c
def X8(m:zS X W a f)(c:zS X W b g):zS X W (.BinOp a .BitOr b pos) (λρ S=>(f ρ S).bind λp j=>(g ρ j).bind λq S2=>Kf p q S2):=vW (Ss λ_ _ _ _ _ _ _ q=>or_int q) VE m c
end
section
variable{KK:Type}[DecidableEq KK]{knd:HeapKind P w KK}
def Kg(u:knd.room A)(b:knd.is s.heap k a)(C:s.heap.DictOfH knd d xs)(h:Q ((atKey xs k).map (·.2)) {s with toks:=s.toks+knd.draws k}):wpAny (model P w) A (dictGet d (.ref a)) Q E s:=by
 refine C.h λo es F G=>G.e λB D hd y m q=>?_;unfold dictGet
 try with_reducible refine ð ?_
 refine wB (knd.pyHash u b ?_);refine wB (wpAny_dictFind_heap u b B hd y m q ?_ ?_)
 .intro c;rw[atKey_none_of_get c]at h;exact wP h
 .intro j p v;refine wB (Ħ B hd ?_);rw[entry_at y j,v];rw[atKey_of_get q v]at h;exact wP h
end
section
variable{apos pos:Pos}
def rGD(X:Cx):V->List V->Hp->VK->Prop:=λx vs H Q=> ∃(α:B9)(kvs:Y0)(xs:List (NK×Addr×ō))(a d:Addr)(k:MV)(c:NK)(y:V),x=.ref d/\vs=[.ref a,y]/\DD X H d xs/\DenN X.K α H kvs xs/\xP k=some c/\sC c<=4/\Den X.K α H k (.ref a)/\
 (∀b v,look kvs k=some b->Den X.K α H b v->Q v H)/\(look kvs k=none->Q y H)
def vD(p:Er)(rs:List Er)(S:Sto):R Er:=match rs with
 |[.val k,r]=>match kO S p with
  |some (_,kvs)=>if keyOk k=true then(match look kvs k with
   |some d=>.ok (.val d) S
   |none=>.ok r S)else .no
  |none=>.no
 |_=>.no
def zEF:YV X W (rGD X) vD:=by
 intro p rs x vs α S M H Q v j q s D a;unfold vD at a;split at a
 .rename_i k r
  cases D with
  |cons dk n1 l1=>
   cases l1 with
   |cons dy n2 l2=>
    cases l2;split at a
    .rename_i l b u;split at a
     .rename_i w;refine(GZ w).c λA G B C=>?_;refine(AB j u s).n λc xs N L J o E=>?_;subst N;obtain⟨F,rfl⟩:=MM C dk.1;refine Xy (α) b xs F c k A _ {rfl,rfl,o,E,G,B,dk.1,(λK I m y=>?_),(λm=>?_)}
      .rw[m]at a;exact(Post.shift q a).val j y
      .rw[m]at a;exact a _ α H q j dy
     .exact a.elim
    .exact a.elim
 .exact a.elim
def zEG(hu:X.A.units+64<cLine)(P:zS X W o f)(D:KQ X W (e::es) af)
  (hbase:attributeBase o "get" X.env (eval o X.env)=eval o X.env:=by rfl)
  (hfew:((backTo pos (starEach (e::es) X.env)).all (λx=>!x.1)&&(backToKw pos (keywordEach [] X.env)).all (λx=>x.1.isSome)
   &&decide ↑3)=true:=by rfl)
  (hline:(apos.endLine==pos.line)=true:=by rfl) (hs:q9 X e es:=by rfl) (hplain:Q2 X pos es:=by rfl):
  zS X W (.Call (.Attribute o "get" apos) (e::es) [] pos) (λρ S=>(f ρ S).bind λp G=>if oV p G=true then(af ρ G).bind λrs S2=>vD p rs S2 else .no):=by
 refine P.a λto P fo=>?_;refine D.a λt D k=>?_;refine(Z3 _ (WA JC PySem.F.plainAttrs_dict PySem.F.slot_dict_get PySem.F.type_dict_get ((show Th X "dict.get" (rGD X) by
   intro pins s σ H x vs v us Q I rx rv h;refine h.z λα b xs a d k nk y V=>V.s λac am E l O e D j M=>?_;subst ac;subst am;refine(vals2 rv).b λu1 u2 ap r1 r2=>?_;subst ap;subst rx;subst r1;refine(sI I E l).f λhm aa hs=>?_;have C:=VU l O;refine é PySem.F.slot_dict_get ((JC pins s σ H (.ref d) _ I rfl (ZX d xs rfl E)).1) PySem.F.entry_dict_get ?_ (PySem.F.args_dict_get_3 _ _ _);show wpAny _ _ (dictGet d _ >>= _) _ _ s;refine wB (Kg (knd:=yB X.prog X.w) (show X.A.units+1+4<cLine by lia) {JA I O D rfl,e} hm ?_)
   cases L:atKey xs nk with
   |some p=>
    rw[L]at C;obtain⟨d',B⟩:=ê.mp C.symm;refine(Gb l O B).h λa2 u3 v3 a0=>a0.f λg1 g2 g3=>?_;rw[L]at g1;cases g1;exact wP {_,rfl,v3,H,I.kept (λ_ _ z=>z),g3,j d' v3 B g2}
   |none=>
    rw[L]at C
    have J:look b k=none:=by
     cases z:look b k with
     |none=>rfl
     |some _=>rw[z]at C;cases C
    show wpAny _ _ _ _ _ _;exact wB (wpAny_missed_other hs (wP {u2,rfl,y,H,I.kept (λ_ _ z=>z),r2,M J})))) P D hbase hfew hline hs hplain) (λα ρ S σ H Q wd sl q=>fo α ρ S σ H _ wd sl (q.bind λu p G m T e1 Z w1 Y j=>?_)));split at j
 .rename_i N;obtain⟨⟨l,b⟩,N⟩:=ê.mp N;refine(AB w1 N Y.1).n λc xs be _ _ E _=>?_;subst be;exact{(ZX c xs rfl E),k m ρ G σ T _ w1 (sl.ext Z) ((j.shift Z).bind λvs rs S2 K H2 e2 U w2 d2 M=>zEF p rs _ vs K S2 T H2 Q m w2 U (Y.1.ext U) d2 M)}
 .exact j.elim
end
section
variable{R:Result->Ō->Prop}
def JH(x:(yB P w).is h k a)(m: ∀b o,h.get? b=some o->h'.get? b=some o):(yB P w).is h' k a:={NP (λb o _ _ e _=>m b o e) x.1,x.2}
def Pm(P:Ŏ)(w:World)(h:Heap)(x:NK×Addr×ō)(v:ō):Prop:= ∃t,v=.ref t/\IsTup h t #[.ref x.2.1,x.2.2]/\(yB P w).is h x.1 x.2.1
def HG(xs:List (NK×Addr×ō)):List (NK×Addr×ō):=xs.foldl (λa x=>storedH a x.1 x.2.1 x.2.2) []
theorem TL(xs):(HG xs).length<=xs.length:=by
 have: ∀(xs b:List (NK×Addr×ō)),(xs.foldl (λb x=>storedH b x.1 x.2.1 x.2.2) b).length<=b.length+xs.length:=by
  intro xs
  induction xs with
  |nil=>intro b;exact à _
  |cons x xs ih=>
   intro b;rw[ņ,lC];have:=ih (storedH b x.1 x.2.1 x.2.2);have:=FD (xs:=b) (k:=x.1) (a:=x.2.1) (u:=x.2.2)
   lia
 have:=this xs [];rw[ă,Nat.zero_add]at this;exact this
theorem Dl(xs:List (NK×Addr×ō))(i)(x)(h:xs[i]? =some x):HG (xs.take (i+1))=storedH (HG (xs.take i)) x.1 x.2.1 x.2.2:=by unfold HG;rw[List.take_add_one,h,List.foldl_append];rfl
def Kh{p:NK->Addr->Prop}(h: ∀x∈xs,p x.1 x.2.1)(j:p k a): ∀x∈storedH xs k a u,p x.1 x.2.1:=by
 intro x b
 cases z:atKey xs k with
 |none=>
  rw[storedH_new z]at b;rcases ì.mp b with b|b
  .exact h x b
  .rw[mS.mp b];exact j
 |some q=>
  rw[storedH_old z]at b;refine(mM.mp b).a λy c m=>?_;subst m;unfold putAt;split
  .exact h y c
  .exact h y c
def ZT{p:NK->Addr->Prop}(h: ∀x∈xs,p x.1 x.2.1): ∀x∈HG xs,p x.1 x.2.1:=by
 have: ∀(xs a:List (NK×Addr×ō)),(∀x∈xs,p x.1 x.2.1)->(∀x∈a,p x.1 x.2.1)-> ∀x∈xs.foldl (λa x=>storedH a x.1 x.2.1 x.2.2) a,p x.1 x.2.1:=by
  intro xs
  induction xs with
  |nil=>intro a _ c;exact c
  |cons y ys ih=>
   intro a b c;exact ih _ (λx j=>b x (mO _ j)) (Kh c (b y mF0))
 exact this xs [] h λx b=>by simp at b
def TN{h:Heap}(c:h.DictOfH (yB P w) D xs)(m: ∀o,h.get? D=some o->h'.get? D=some o)(a: ∀x∈xs,(yB P w).is h' x.1 x.2.1):h'.DictOfH (yB P w) D xs:=
 let ⟨o,es,s,q,b,u,v,_,j⟩:=c;(Zj o es s {m o q,b,u,v,a,j})
theorem Dm{St:Nat->Heap->Prop}(W:Walks P w A.in1 I fp [I] n Pv St)(J:D∉fp)(kvs)(hn:kvs.length=n)(hz:n<=sizeLine)(B:(yB P w).room A.in1)
  (hP: ∀i v,Pv i v-> ∃kv,kvs[i]? =some kv/\Pm P w h₀ kv v) (hK: ∀x∈kvs,(yB P w).is h₀ x.1 x.2.1) (hI:h₀.get? I=none) (hD:h₀.get? D=none):
  ∀ k i  j  s ,n - i=k->i<=n->St i s.heap->s.heap.DictOfH (yB P w) D (HG (kvs.take i))->(∀b o,h₀.get? b=some o->s.heap.get? b=some o)->
   (∀h' Q,(∀b o,h₀.get? b=some o->h'.get? b=some o)->h'.DictOfH (yB P w) D (HG kvs)->R (.ok (.ret .none)) {s with heap:=h',toks:=Q})->
   codeAny (model P w) A (.builtin "dict.update.loop" {[.ref D,.ref I,rawInt j,.none],[]}) R s:=by
 have L:D≠I:=λe=>J (e▸W.sub _ (mS.mpr rfl));intro k
 induction k with
 |zero=>
  intro i j s hk hi C O q Z;have U:i=n:=by lia
  subst U;refine Ď F.entry_dict_update_loop ?_;refine wB (W.done s _ _ C λh' Q u=>?_);refine wB (wP ?_);rw[<-hn,take_length]at O;refine wP (Z h' Q (λb o e=>?_) ?_)
  .exact u b o (λh=>by rw[mS.mp h,hI]at e;cases e) (q b o e)
  .exact TN O (λo e=>u D o (λh=>L (mS.mp h)) e) λx M=>JH (ZT hK x M) λb o e=>u b o (λh=>by rw[mS.mp h,hI]at e;cases e) (q b o e)
 |succ k ih=>
  intro i j s hk hi C O q Z;have G:i<n:=by lia
  refine Ď F.entry_dict_update_loop ?_;refine wB (W.item i s _ _ G C λv h' Q T E u=>?_);obtain⟨kv,X,a,rfl,hT,N⟩:=hP i v T;have c:=λb o e=>u b o (λh=>by rw[mS.mp h,hI]at e;cases e) (q b o e);have⟨o,ho,hc,nn,K⟩:=hT.keeps c;refine wB (ð ?_);refine wB (wpAny_tryCatch ?_);refine wB (Č ((Z3 o ho hc)) ?_);refine wB ?_;rw[20];refine wB (wpAny_load ho ?_);refine qq K ?_;refine wP (wP ?_);rw[20];refine ð ?_;have aa:=TL (kvs.take i);have ab:(kvs.take i).length<=n:=by rw[<-hn];exact List.length_take_le' i kvs
  refine wpAny_dictSet_heap B (JH N c) (TN O (λo e=>u D o (λh=>L (mS.mp h)) e) λx M=>JH (ZT ((λm x M=>hK x (List.mem_of_mem_take M)) i) x M) c) λh2 S H=>?_;have y: ∀b o,h₀.get? b=some o->h2.get? b=some o:=λb o e=>by rw[H.2 b (λh=>by rw[h,hD]at e;cases e)];exact c b o e
  refine wP {ġ F.plain_dict_update_loop _,ih _ _ _ #[0] G (W.frame _ _ _ E λb hb o e=>?_) ?_ y λh3 Y k3 d3=>Z h3 Y k3 d3}
  .rw[H.2 b (λh=>J (h▸hb))];exact e
  .rw[Dl _ _ _ X];exact S
theorem JK(hu:A.units+64<cLine)(J:A.handled=none)(M:s.heap.get? l=some o)(H:o.cls=.type "list")(hd:o.dict=none)(j:o.data=.seq its c)(B:its.size=kvs.length)(hz:its.size<=sizeLine)
  (hP: ∀(i:Nat) v,its[i]? =some v-> ∃O,kvs[i]? =some O/\Pm P w s.heap O v) (hK: ∀x∈kvs,(yB P w).is s.heap x.1 x.2.1)
  (h: ∀h' N,↑8->h'.DictOfH (yB P w) ↑0 (HG kvs)->Q (.ref ↑0) {s with heap:=h',toks:=N}):
  wpAny (model P w) A (call (.type "dict") [.ref l]) Q E s:=by
 refine callType_codes (Q₁:=λD m=>D=.ref ↑0/\m={s with heap:=s.heap.push {cls:=.type "dict",data:=.dict #[]}}) F.kt_called_dict (F.kt_typeCall_dict_1 _) F.entry_dict_init (kt_code_dict_new _ ⟨rfl,rfl⟩) ?_;rintro D m ⟨rfl,rfl⟩;have a:(s.heap.push {cls:=.type "dict",data:=.dict #[]}).DictOfH (yB P w) ↑0 []:=Heap.DictOfH.new s.heap;have y:(s.heap.push {cls:=.type "dict",data:=.dict #[]}).get? l=some o:=hP0 _ M;refine{a.typeIs,F.args_dict_init_2 _ _,?_};refine wB ?_;refine wB (Ĝ a.typeIs ?_);refine wP ?_;show wpAny _ _ (Builtin.Dict.updateFrom "dict.__init__" ↑0 _ [] .none) _ _ _;refine wB (Č (Z3 o y H) ?_);refine wB (getAttr?_miss_list y H j hd HE (by decide+kernel) J (λL S I=>?_) (by decide+kernel));refine wB (Ě ?_);have q:=I l o y;refine wB (ĭ ⟨o,q,H,c,j⟩ ?_);have C:↑0<L.objs.size:=by refine a.m λG _ _ u _=>?_;exact â (I _ _ u)
 refine wP {ġ F.plain_dict_update_loop _,Dm (Walks.list (by first |exact J|exact J) L.objs.size l (å (â q)) its) ?_ kvs B.symm hz (by show _+4<cLine;first |(show A.units+1+1+4<cLine;lia)|(show A.units+1+4<cLine;lia)|(show A.units+4<cLine;lia)) hP hK ?_ ?_ _ 0 0 _ rfl (zero_le _) {(Z0 _ (á _ rfl) rfl rfl),{o,hP0 _ q,H,c,j}} ?_ ?_ λh' N Z K=>?_}
 .rw[mC,mS];rintro(e|e)
  .exact å C e
  .exact å (â M) e.symm
 .cases u:s.heap.get? L.objs.size with
  |none=>rfl
  |some G=>exact absurd (â u) (Nat.lt_asymm C)
 .cases u:s.heap.get? ↑0 with
  |none=>rfl
  |some G=>exact absurd (â u) (Į _)
 .refine a.h λG es T k=>k.e λu X U r3 _ Y=>?_;exact Zj G es T {hP0 _ (I _ _ u),X,U,r3,(λx W=>(by cases W)),Y}
 .intro b G e;exact hP0 _ (I _ _ (hP0 _ e))
 .exact{rfl,h h' N Z K}
end
section
variable{X:Cx}
noncomputable def lH:List MV->Option (List (MV×MV))
 |[]=>some []
 |.tup [k,v]::r=>if keyOk k=true then(lH r).map ((k,v)::·)else none
 |_::_=>none
def ZU(ps:Y0):List (MV×MV):=ps.foldl (λa p=>putK a p.1 p.2) []
theorem TQ(I:↑1): ∀{ds}{kvs}{vs}{us},lH ds=some kvs->DenL X.K α H ds vs->Vals vs us->
  ∃xs,DenN X.K α H kvs xs/\↑7=us.length/\ ∀(i:Nat) v,us[i]? =some v-> ∃x,xs[i]? =some x/\Pm X.prog X.w s.heap x v
 |[],kvs,vs,us,e,l,r=>by cases e;have:=l.isnil;subst this;cases r;exact Z0 ([]) .nil rfl (λi v h=>by simp at h)
 |d::ds,kvs,vs,us,e,l,r=>by
  refine l.uncons.b λv vr V D C=>?_;subst V;unfold lH at e;split at e
  .cases (by assumption:d::ds=[])
  .rename_i k y Z hd;obtain⟨rfl,rfl⟩:=List.cons.inj hd;split at e
   .rename_i A
    cases z:lH ds with
    |none=>rw[z]at e;cases e
    |some ms=>
     rw[z]at e;cases e
     cases r with
     |@cons _ u _ us ru rt=>
      refine(TQ I z C rt).c λxs Q L N=>?_;refine(bG D).b λt ws ac hs P=>?_;subst ac;refine P.uncons.b λT r1 am b E=>?_;subst am;refine E.uncons.b λS U ap B o=>?_;subst ap;have G:=o.isnil;subst G;subst ru;refine(GZ A).c λW j c O=>?_;obtain⟨a,rfl⟩:=MM O b;refine(I.tuple hs).c λq F J hz=>?_;refine(vals2 F).b λu1 Y be m M=>?_;subst be;subst m;refine Z0 (_::xs) (.cons j c b B M Q) (by exact qq lC (qq lC (qq L rfl))) (λi w hw=>?_)
      cases i with
      |zero=>
       cases hw;exact{_,rfl,t,rfl,J,JA I j b rfl,c}
      |succ i=>exact N i w hw
   .cases e
  .cases e
def Ki(q:DenN X.K α H kvs xs): ∀{as}{bs},DenN X.K α H as bs->DenN X.K α H (kvs.foldl (λj p=>putK j p.1 p.2) as) (xs.foldl (λj x=>storedH j x.1 x.2.1 x.2.2) bs):=by
 induction q with
 |nil=>exact λh=>h
 |cons hk e ha hd r l ih=>exact λh=>ih (VV h hk e ha hd r)
theorem Kj(Y:X.A.units+64<cLine):CallR X (.type "dict") (λxs H Q=> ∃α l vs ds kvs,xs=[.ref l]/\SqL X.K H l vs/\DenL X.K α H ds vs/\lH ds=some kvs/\X.calm=true/\ ∀p ys,H p=none->DenN X.K α H (ZU kvs) ys->Q (.ref p) (yP H p (DN X.prog X.w p ys))):=by intro pins s σ H xs us Q I r h;refine h.q λα l vs ds kvs k=>k.e λac S dl hp T q=>?_;subst ac;refine(vals1 r).a λu am rx=>?_;subst am;subst rx;refine(I.list S).c λN F ap hz=>?_;obtain ⟨o,n,U,D,hd,b⟩:=ap;refine(TQ I hp dl F).c λxs m G h3=>?_;have hl:=F.length;refine JK Y (I.ok.hd T) U D hd b (by exact qq sA (qq G rfl)) (by rw[sA];lia) (λi v e=>h3 i v (by simpa using e)) (Ft I m) λh' tk O C=>?_;have hm:=TL xs;refine C.h λob es L V=>V.e λa W B J _ M=>?_;refine Z2 (.ref ↑0) _ (I.laid (o:=DN X.prog X.w ↑0 (HG xs)) O (à _) ?_) rfl (q _ _ (I.hok.fresh (à _)) (Ki m .nil));refine{{by lia,Ĉ.mpr (Ne.symm (å (OM I))),ob,es,L,a,W,B,J,M},⟨ob,a⟩,?_};rintro m G ⟨Z,P,E,y,c,j,r⟩ mv;exact{Z,P,E,y,c,mv E j,r}
def TR:List Er->Sto->R Er
 |[r],S=>match (xQ S r).bind lH with |some kvs=>.ok (.val (.loc S.length)) (S++[.dic (ZU kvs)])|none=>.no
 |_,_=>.no
def Xm(s:X.calm=true):dH X W (λxs H Q=> ∃α l vs ds kvs,xs=[.ref l]/\SqL X.K H l vs/\DenL X.K α H ds vs/\lH ds=some kvs/\X.calm=true/\ ∀p ys,H p=none->DenN X.K α H (ZU kvs) ys->Q (.ref p) (yP H p (DN X.prog X.w p ys))) TR:=by
 intro rs vs α S H Q b d a;unfold TR at a;split at a
 .split at a
  .rename_i kvs e;refine(dI d).a λv k q=>?_;subst k
   cases z:xQ S _ with
   |none=>rw[z]at e;cases e
   |some ds=>
    rw[z]at e;refine(oS rfl b z q).b λu y D C l=>?_;subst D;refine Yq (α) u y ds kvs rfl C l e s (λp ys j A=>?_);have c:=b.newx (o:=DN X.prog X.w p ys) j;obtain⟨x,B⟩:=b.put (m:=.dic _) j (.inr {_,zM,A.ex0 {{[p],rfl},c.tup,c.frz}});exact a _ _ _ x B (DenE.val (oR (by rw[<-b.len,æ (à _),sub_self];rfl)))
  .exact a.elim
 .exact a.elim
end
section
variable{C:Addr}
def DenF.len{K:O0}: ∀{fs gs},DenF K α H fs gs->gs.length=fs.length:=λa=>by
 induction a with
 |nil=>exact rfl
 |cons b l ih=>exact by rw[lC,lC,ih]
def RMt(P:Ŏ)(w:World)(K:O0)(mg:G0)(base:Heap)(m:Str)(k n:Nat)(c:Str)(F:↑13):Prop:= ∃C a b ps,OC K c C/\Meth K C m a/\FnOk P w K mg base rE k a b ps (KR ⟨K,mg,P,w⟩ n F)/\Binds K b ps []
end
section
def zEH(X:Cx):R2:=λx y H Q=> ∃(ks:List (Key×V))(d:Addr)(k:Key)(v:V),x=.ref d/\y=kV k/\DK X H d ks/\dL ks k=some v/\Q v H
def ZV(p q:Er)(S:Sto):R Er:=match lG S p,q with
 |some (_,kvs),.val k=>if sM k=true then(match look kvs k with |some d=>.ok (.val d) S|none=>.no)else .no
 |_,_=>.no
def Xn:Cj X W (zEH X) ZV:=by
 intro p q x y α S H Q o v A a;unfold ZV at a;split at a
 .rename_i l u k w;refine(Ju o w v).k λc E L=>L.e λM K J m G _=>?_;subst M;split at a
  .rename_i j;obtain⟨B,b⟩:=ê.mp j;have s:=De b A;subst s;split at a
   .rename_i d I;refine((CO G (Dc b)).1 d I).a λF D C=>?_;exact ZB E c B F {rfl,rfl,m,D,Post.val a o C}
   .exact a.elim
  .exact a.elim
 .exact a.elim
def X9(L:zS X W a f)(A:zS X W b g)(hs:MB b:=by exact λ_ _=>rfl):zS X W (.Subscript a b pos) (λρ S=>(f ρ S).bind λp B=>(g ρ B).bind λq S2=>ZV p q S2):=A2 (by intro j m pins s σ H x y u v Q I K C h c;refine h.o λN d k w P T D J q=>?_;subst P;subst T;subst K;obtain⟨_,hs,M,G,o⟩:=jQ I D;refine((MN G k).1 w J).a λO E F=>?_;exact subscriptTail_builtinR o.typeIs slot_dict_getitem.lookup (wpAny_getItem_of (OW C) o.mapOf E {rfl,w,H,I.tok _,F,q}) c) Xn L A hs
end
section
theorem Po(j:s.heap.IsItemsView v d)(o:s.heap.get? d=some od)(a:od.data=.dict es ep)
  (hQ:Q (.ref ↑0) {s with heap:=s.heap.push {cls:=.type "dict_itemiterator",data:=.fields #[.none,.bool false,.ref d,.int 0 0,.int es.size 0,.int ep 0,.none,.none]}}):wpAny (model P w) A (pyIter (.ref v)) Q E s:=by
 refine(id j).c λu m q c=>?_;refine wpAny_pyIter_slot j.typeIs PySem.F.slot_dict_items_iter (é PySem.F.slot_dict_items_iter j.typeIs PySem.F.entry_dict_items_iter ?_ (PySem.F.args_dict_items_iter_1 _));refine wB (wP (wB ?_));refine wB (ï m c rfl (wP (wB ?_)));refine wB (Ħ o a (wB (ň o a ?_)));have b:Builtin.Dict_items.ownsTuple "dict_itemiterator"=true:=by decide
 simp only[b,if_true]
 refine Ā (wP {_,rfl,"dict_itemiterator",_,(Z3 _ (á _ rfl) rfl),PySem.F.slot_dict_itemiterator_next.lookup,?_})
  (by simp only[sizeOk,Builtin.Dict_items.ownedTupleFields,sA,lA,lC,ă,ý];lia)
 simpa [rawInt,Builtin.Dict_items.ownedTupleFields]using hQ
theorem Xo(T:IsItemIter s.heap it d i es.size ep ok ov)(aa:s.heap.get? d=some od)(ab:od.data=.dict es ep)(hlt')
  (hQ: ∀h',IsItemIterOut h' it d (i+1) es.size ep es[i].key es[i].val ↑0->
   h'.get? ↑0=some {cls:=.type "tuple",data:=.seq #[es[i].key,es[i].val]}->h'.objs.size=↑0+1->
   (∀b o,b≠it->s.heap.get? b=some o->h'.get? b=some o)->Q (some (.ref ↑0)) {s with heap:=h'}):
  wpAny (model P w) A (pyNext (.ref it)) Q E s:=by
 obtain⟨O,g,dr,tk,os⟩:=s;have hT:Shared.TypeIs ⟨O,g,dr,tk,os⟩ (.ref it) "dict_itemiterator":={_,T,rfl}
 unfold pyNext
 refine wB (ċ (í hT PySem.F.slot_dict_itemiterator_next
  (é PySem.F.slot_dict_itemiterator_next hT PySem.F.entry_dict_itemiterator_next ?_ (PySem.F.args_dict_itemiterator_next_1 _))))
 refine wB (wP ?_);refine wB ?_;refine wB ?_
 first |refine wB (Ĭ hT (wP ?_))|refine wB _
 refine wB (wpAny_fieldsOf T rfl ?_);have Z:Builtin.Dict_items.ownsTuple "dict_itemiterator"=true:=by decide
 simp only[Z,if_true];show wpAny _ _ (if _=true then _ else _) _ _ _;rw[iN (show¬((Value.ref d==Value.none)=true)from xF0)];refine wB (wP ?_);refine wB (Ħ aa ab ?_);rw[iN (by simp)];refine wB (wP ?_);refine wB (ň aa ab ?_);rw[iN (by simp)];refine wP ?_;simp only[show¬((i:Int)<0)from by lia,iF,ą,ě hlt'];refine wB ?_
 first |refine wB (Ĭ hT (wP ?_))|refine wB _
 refine wB (wpAny_isOneOf_itemiter hT ?_);show wpAny _ _ (setField (.ref it) 3 (rawInt ((i:Int)+1)) >>= _) _ _ ⟨O,g,dr,tk,os⟩;refine wB (ö T (by simp) λa y j=>?_)
 replace j:Heap.SameBut it O a:=j
 replace y:IsItemIter a it d (i+1) es.size ep ok ov:=by
  have e:((i+1:Nat):Int)=(i:Int)+1:=by lia
  unfold IsItemIter;rw[e];simpa [rawInt]using y
 have H:Shared.TypeIs ⟨a,g,dr,tk,os⟩ (.ref it) "dict_itemiterator":={_,y,rfl}
 refine wB (ð ?_);refine wB (wpAny_isOneOf_itemiter H ?_);refine wB (wpAny_isOneOf_itemiter H ?_);show wpAny _ _ _ _ _ ⟨a,g,dr,tk,os⟩;unfold Builtin.Dict_items.pairFromOwner;refine wB (wpAny_newTuple ?_);have q:IsItemIter (a.push {cls:=.type "tuple",data:=.seq #[es[i].key,es[i].val]}) it d (i+1) es.size ep ok ov:=hP0 _ y;generalize C:a.push {cls:=.type "tuple",data:=.seq #[es[i].key,es[i].val]}=h₂ at q;have B:a.objs.size=O.objs.size:=j.1;have S:it<O.objs.size:=â T;have Y:h₂.get? O.objs.size=some {cls:=.type "tuple",data:=.seq #[es[i].key,es[i].val]}:=by rw[<-C, <-B];exact á _ rfl
 have W:h₂.objs.size=O.objs.size+1:=by rw[<-C,Ģ,B]
 have X: ∀b o,b≠it->O.get? b=some o->h₂.get? b=some o:=λb o U e=>by rw[<-C];exact hP0 _ (j.extBut b o U e)
 show wpAny _ _ _ _ _ ⟨h₂,g,dr,tk,os⟩;rw[B];clear C y j H B a;refine wB ?_;unfold Builtin.Dict_items.ownedTupleIsFree;refine wB (ï q rfl (x:=.none) rfl (wP ?_));simp only[if_true];refine wB (ï q rfl (x:=ok) rfl ?_);refine wB (ï q rfl (x:=ov) rfl ?_);refine wB (ö q (by simp) λM I v=>?_)
 replace v:Heap.SameBut it h₂ M:=v
 replace I:IsItemIter M it d (i+1) es.size ep es[i].key ov:=I
 refine wB (ö I (by simp) λN G m=>?_)
 replace m:Heap.SameBut it M N:=m
 replace G:IsItemIter N it d (i+1) es.size ep es[i].key es[i].val:=G
 refine wB (ö G (by simp) λL D c=>?_)
 replace c:Heap.SameBut it N L:=c
 replace D:IsItemIterOut L it d (i+1) es.size ep es[i].key es[i].val O.objs.size:=D
 refine wB (ö D (by simp) λK J u=>?_)
 replace u:Heap.SameBut it L K:=u
 replace J:IsItemIterOut K it d (i+1) es.size ep es[i].key es[i].val O.objs.size:=J
 refine wB (wpAny_letGo (wP (wP (Z3 _ rfl (wP (hQ K J ?_ ?_ ?_))))))
 .exact u.extBut _ _ (ø S) (c.extBut _ _ (ø S) (m.extBut _ _ (ø S) (v.extBut _ _ (ø S) Y)))
 .show K.objs.size=O.objs.size+1;rw[u.1,c.1,m.1,v.1,W]
 .exact λb o U e=>u.extBut b o U (c.extBut b o U (m.extBut b o U (v.extBut b o U (X b o U e))))
theorem Xp(q:A.handled=none)(a:IsItemIter s.heap it d i es.size ep ok ov)(b:s.heap.get? d=some od)(c:od.data=.dict es ep)(m:es.size<=i)
  (hQ: ∀h',Heap.ExtBut it s.heap h'->Q none {s with heap:=h'}):wpAny (model P w) A (pyNext (.ref it)) Q E s:=by
 have j:s.TypeIs (.ref it) "dict_itemiterator":={_,a,rfl}
 refine wB (ċ (í j PySem.F.slot_dict_itemiterator_next
  (é PySem.F.slot_dict_itemiterator_next j PySem.F.entry_dict_itemiterator_next ?_ (PySem.F.args_dict_itemiterator_next_1 _))))
 refine wB (wP ?_);refine wB ?_;refine wB ?_
 first |refine wB (Ĭ j (wP ?_))|refine wB _
 refine wB (wpAny_fieldsOf a rfl ?_);have o:Builtin.Dict_items.ownsTuple "dict_itemiterator"=true:=by decide
 show wpAny _ _ (if _=true then _ else _) _ _ s;refine wB (wP ?_);refine wB (Ħ b c ?_);rw[iN (by simp)];refine wB (wP ?_);refine wB (ň b c ?_);rw[iN (by simp)];refine wP ?_;simp only[show¬(_<0)from by lia,ą,Array.getElem?_eq_none m];refine wB ?_
 first |refine wB (Ĭ j (wP ?_))|refine wB _
 show wpAny _ _ (setField _ 2 .none >>= _) _ _ s;refine wB (wpAny_setField a rfl (by simp) ?_);refine wB ?_;refine wB (Ā ?_ (by size_fits));refine wB (wpAny_of_eq (by first |rfl|(simp only[firstArgMember];rfl)) ?_);refine Ā ?_ (by size_fits);refine wB (wpAny_handled ?_);rw[show A.in1.handled=none from q];refine wB (wP (wpAny_throw ?_));refine wB (ĩ (Z3 _ (á _ rfl) rfl) isSubtype_stop ?_);exact wP (hQ _ (((Ę ..).extBut.push _).push _))
end
section
def ZW:entryFor table "dict_itemiterator.__iter__"=some Builtin.«dict_keyiterator.__iter__»:=
 entryFor_alias (id':="dict_keyiterator.__iter__") (by kernel_rfl) rfl (by decide+kernel) (by kernel_rfl)
def RM(a:s.TypeIs (.ref it) "dict_itemiterator")(h:Q (.ref it) s):wpAny (model P w) A (pyIter (.ref it)) Q E s:=by refine wpAny_pyIter_slot a PySem.F.slot_dict_itemiterator_iter (é PySem.F.slot_dict_itemiterator_iter a ZW ?_ (PySem.F.args_dict_itemiterator_iter_1 _));show wpAny _ _ _ _ _ s;exact wP {_,rfl,"dict_itemiterator",_,a,PySem.F.slot_dict_itemiterator_next.lookup,h}
end
def Iti(P:Ŏ)(w:World)(d:Addr)(o:Obj)(xs:List (NK×Addr×ō))(vs:List V):It:=
 {λi H=>H d=some (.frz o (DN P w d xs))/\i<↑7,
   λi H v H'=> ∃p x y,H p=none/\v=.ref p/\xs[i]? =some x/\vs[i]? =some y/\H'=yP H p (.tup [.ref x.2.1,y]),
   λi H=>H d=some (.frz o (DN P w d xs))/\↑7<=i}
theorem Do{K:O0}(hdat:o.data=.dict es ep)(hes:es.toList=xs.map (entryOfKey (yB P w)))(hvs:Vals vs (xs.map (·.2.2))):
  Turn P w K (.Tuple elts kt pt) (Iti P w d o xs vs) [it] it (λi h=> ∃ok ov,IsItemIter h it d i es.size ep ok ov) where
 mem:=by simp
 obj:=λi h ⟨ok,ov,st⟩ b hb=>by cases mS.mp hb;exact Z3 _ st (λv q=>by cases q)
 keep:=λi h h' ⟨ok,ov,st⟩ k=>(Y6 ok ov (k it (by simp) _ st))
 item:=by
  rw[21];obtain⟨hd,hi⟩:=hg;obtain⟨ok,ov,hit⟩:=st;obtain⟨hod,_⟩:=(I.hok d _ hd)
  have hsz:es.size=xs.length:=by rw[<-î,hes,lM]
  have hlt:i<es.size:=by lia
  obtain⟨x,hx⟩: ∃x,xs[i]? =some x:={_,gE hi}
  have he:=by have:=congrArg (·[i]?) hes;simp only[ñ,ë,hx,ě hlt]at this;exact è this
  have hl:=hvs.length;rw[lM]at hl;obtain⟨y,hy⟩: ∃y,vs[i]? =some y:={_,gE #[0]}
  refine(hvs.get hy).a λu hu ru=>?_;rw[ë,hx]at hu;cases hu;refine Xo hit hod hdat hlt λh' a1 a2 a3 a4=>(Z3 _ rfl ?_)
  refine wpAny_letOwnedTupleGo_items a1 λh2 z2 sb2=>?_
  replace a2:h'.get? ↑0=some {cls:=.type "tuple",data:=.seq #[.ref x.2.1,x.2.2]}:=by rw[a2,he];rfl
  have I0:Inv X pins σ _ {s with heap:=s.heap.push {cls:=.type "tuple",data:=.seq #[.ref x.2.1,x.2.2]}}:=
   I.laid (o:=.tup [.ref x.2.1,y]) (λb o e=>hP0 _ e) (à _) {by show 2<=sizeLine;decide,[.ref x.2.1,x.2.2],.cons rfl (.cons ru .nil),{_,á _ rfl,rfl,_,rfl}}
  have fr: ∀b∈[it],yP H ↑0 (.tup [.ref x.2.1,y]) b=none:=λb hb=>by cases mS.mp hb;rw[zH (å (â hit))];exact(hf it hb).1
  have mv: ∀b o,b∉[it]->(s.heap.push {cls:=.type "tuple",data:=.seq #[.ref x.2.1,x.2.2]}).get? b=some o->h2.get? b=some o:=λb o hb e=>by
   rw[mS]at hb;refine sb2.extBut _ _ hb ?_;by_cases hbs:b=↑0
   .subst hbs;rw[á _ rfl]at e;cases e;exact a2
   .rw[Heap.get?_push_ne _ _ _ hbs]at e;exact a4 b o hb e
  exact Ys (.ref ↑0) _ (I0.turnedL (t':=s.toks) mv λb hb=>let ⟨_,c2,c3,c4,c5,c6⟩:=hf b hb;{fr b hb,c2,c3,c4,c5,c6}) rfl (Y4 (↑0) x y (I.hok.fresh (à _)) rfl hx hy rfl) (Y6 _ _ z2) fr
 done:=by
  rw[21];obtain⟨hd,hi⟩:=hg;obtain⟨ok,ov,hit⟩:=st;obtain⟨hod,_⟩:=(I.hok d _ hd)
  have hsz:es.size=xs.length:=by rw[<-î,hes,lM]
  refine Xp (I.ok.hd hc) hit hod hdat #[0] λh' he=>{rfl,?_}
  exact I.turnedL (λb o hb e=>he b o (λz=>hb (by rw[z];simp)) e) hf
 self:=λ_ _ _ _ _ ⟨_,_,st⟩ h=>RM (Z3 _ st rfl) h
section
variable{pins:L0}{σ:St}{H:Hp}{s:Ō}{α:B9}{o:Expr}{apos pos pt:Pos}{elts:N0}{kt:Nat}
def _root_.L2.Inv.freezeD(I:↑1)(j:DD X H d xs)(M:DenN X.K α H kvs xs)(S:s.heap.get? d=some ob):Inv X pins σ (yP H d (.frz ob (DN X.prog X.w d xs))) s:=by
 refine(sI I j M).f λk W hs=>?_;obtain ⟨N,es,L,y,Q,hd,G,Y,J⟩:=k;have a: ∀m,H d≠some (.tup m):=λm e=>by rcases j with h|⟨_,h⟩<;>(rw[h]at e;cases e)
 have A: ∀b,H d≠some (.own b):=λb e=>by rcases j with h|⟨_,h⟩<;>(rw[h]at e;cases e)
 have B: ∀b,H d≠some (.tbl b):=λb e=>by rcases j with h|⟨_,h⟩<;>(rw[h]at e;cases e)
 have q:H d≠none:=λe=>by rcases j with h|⟨_,h⟩<;>(rw[h]at e;cases e)
 have ne: ∀{b:Addr}{v:HO},H b=some v->H d≠some v->b≠d:=λe n z=>n (z▸e);refine I.step (ch:=[]) (λ_ z=>nomatch z) (λb o _ _ _ e _=>e) (λb o _ _ _ e _=>{_,e}) (λb o _ e n=>?_) (λb o _ e=>⟨o,e⟩) (λb m e=>?_) (λb o u e=>?_) (λb ps e=>?_) (λ_ z=>z) (λb u e=>?_) I.bare
 .rw[zH (λz=>q (by rw[<-z];exact n))];exact n
 .rw[zH (ne e (a m))];exact e
 .rw[zH (ne e (j.nf o u))];exact e
 .rw[zH (ne e (B ps))];exact e
 .by_cases E:b=d
  .subst E;rw[zM]at e;cases e;refine{S,⟨W,hs,N,es,L,y,Q,hd,G,J⟩,{_,y},?_};rintro Z h2 ⟨T,O,F,D,C,P,r⟩ U;exact{T,O,F,D,C,U _ P,r}
  .rw[zH E]at e;exact(I.hok b u e).stay (λ_ _ _ r=>r) (λc r=>by rw[zH (ne r (A b))];exact r) (λc m r=>by rw[zH (ne r (a m))];exact r) λc o u r=>by rw[zH (ne r (j.nf o u))];exact r
noncomputable def PB(l d:Addr):HO:=.ext λh=>h.IsItemsView l d
def Pp:Th X "dict.items" (λx vs H Q=> ∃d xs,x=.ref d/\vs=[]/\DD X H d xs/\ ∀l,H l=none->Q (.ref l) (yP H l (PB l d))):=by
 intro pins s σ H x vs v A Q I u w h;refine h.l λd xs k D c q=>?_;subst k;subst D;subst u;have:=w.zero;subst this;have a:s.TypeIs _ "dict":=(JC pins s σ H (.ref d) _ I rfl (ZX d xs rfl c)).1
 have hs:(d==sysModules)=false:=by
  rcases c with h|⟨rfl,h⟩
  .obtain⟨⟨B,hs,_⟩,_⟩:=(I.hok d _ h)
   exact hs
  .refine(I.hok d _ h).f λ_ hs _=>?_
   exact hs
 refine é PySem.F.slot_dict_items a PySem.F.entry_dict_items ?_ (PySem.F.args_dict_items_1 _);refine wB ?_;refine wB (Ĝ a ?_);show wpAny _ _ _ _ _ s;refine wP ?_;show wpAny _ _ _ _ _ s;unfold Builtin.Dict.showsAll;refine qq (iN (by rw[hs];exact xF0)) ?_;refine wB (wP ?_);refine wB (Ā (wP {_,rfl,.ref ↑0,_,I.laid (o:=PB ↑0 d) (λb o e=>hP0 _ e) (à _) {(Z0 _ (á _ rfl) rfl rfl),{_,á _ rfl},?_},rfl,q _ (I.hok.fresh (à _))}));rintro C y ⟨o,j,r⟩ m;exact Z3 o (m o j) r
def qIts(X:Cx)(R:It->Hp->Prop)(x:V)(H:Hp):Prop:= ∃l d xs vs α a,x=.ref l/\H l=some (PB l d)/\DD X H d xs/\DenN X.K α H a xs/\Vals vs (xs.map (·.2.2))/\ ∀o,R (Iti X.prog X.w d o xs vs) (yP H d (.frz o (DN X.prog X.w d xs)))
def iIts(X:Cx)(b:TE):TI:=λσ H R=>b σ H λx a=>TyD X x a/\ ∃d xs,x=.ref d/\([]:List V)=[]/\DD X a d xs/\ ∀l,a l=none->qIts X R (.ref l) (yP a l (PB l d))
def Pq(N:PE X o to)(c:attributeBase o "items" X.env (eval o X.env)=eval o X.env:=by rfl)(j:(apos.endLine==pos.line)=true:=by rfl):
  PI X (.Tuple elts kt pt) (.Call (.Attribute o "items" apos) [] [] pos) (iIts X to):=by
 intro pins s σ H R I h;refine xV (Ws JC PySem.F.plainAttrs_dict PySem.F.slot_dict_items PySem.F.type_dict_items Pp N c j pins s σ H _ I h) λv u ⟨x,U,I1,O,C⟩=>?_;refine C.u λl d xs vs α E k=>k.e λV T w y P q=>?_;subst V;subst O;obtain⟨a,_⟩:=(I1.hok l _ T)
 refine(sI I1 w y).f λac hz hs=>?_;obtain ⟨A,es,K,m,Z,hd,G,Y,W⟩:=ac;refine Po a m hd ?_;have B: ∀b o,u.heap.get? b=some o->(u.heap.push {cls:=.type "dict_itemiterator",data:=.fields #[.none,.bool false,.ref d,.int 0 0,.int es.size 0,.int K 0,.none,.none]}).get? b=some o:=λb o e=>hP0 _ e;refine Yq u.heap.objs.size ([u.heap.objs.size]) _ _ _ rfl ((I1.kept (t':=u.toks) B).freezeD w y (B d A m)) (Do hd G P) (Y6 _ _ (á _ rfl)) (λb J=>?_) (q A);cases mS.mp J;refine(I1.fpOk (à _) (I1.hok.fresh (à u.heap.objs.size))).e λ_ L D Q M S=>?_;exact{by refine qq (zH (ø (â m))) ?_;exact I1.hok.fresh (à _),L,D,Q,M,S}
def WG(p:Er)(S:Sto):R Wk:=match kO S p with
 |some (l,kvs)=>.ok {kvs.map λa=>.tup [a.1,a.2],[]} (S.set l (.fdc kvs))
 |none=>.no
theorem DenN.at'{K:O0}: ∀{kvs}{xs}{i:Nat}{j},DenN K α H kvs xs->kvs[i]? =some j-> ∃x,xs[i]? =some x/\Den K α H j.1 (.ref x.2.1)
 |_,_,0,_,.cons hk e a d r l,h=>by cases h;exact Z3 _ rfl a
 |_,_,i+1,_,.cons hk e a d r l,h=>DenN.at' (i:=i) l h
theorem Pr(Y:zS X W o f)(m:attributeBase o "items" X.env (eval o X.env)=eval o X.env:=by rfl)(b:(apos.endLine==pos.line)=true:=by rfl):
  NZ X W (.Tuple elts kt pt) (.Call (.Attribute o "items" apos) [] [] pos) (λρ S=>(f ρ S).bind WG):=by
 refine Y.a λt Y k=>?_;refine Z3 _ (Pq Y m b) (λα ρ S σ H Rc wd sl q=>k α ρ S σ H _ wd sl (q.bind λu p S1 C H1 e1 x1 Z d1 A=>?_))
 replace A:=A.shift x1
 unfold WG at A;split at A
 .rename_i l a ed;refine(AB Z ed d1.1).n λc xs V E hS T dl=>?_;subst V;refine(Wt dl).a λvs Q U=>?_;refine{⟨c,xs,rfl,T⟩,c,xs,rfl,rfl,T,λv M=>?_};have N:=Z.newx (o:=PB v c) M;have wn:=Z.new (o:=PB v c) M
  have s:DD X (yP H1 v (PB v c)) c xs:=by
   rcases T with h|⟨e,h⟩
   .exact .inl (by rw[zH (zQ h M)];exact h)
   .exact .inr {e,by rw[zH (zQ h M)];exact h}
  refine XV v c xs vs C a {rfl,zM,s,dl.ex0 N.toEx0,U,(λob=>?_)};have xw:=wn.writex E s.nf (o:=.frz ob (DN X.prog X.w c xs));have F:=(dl.ex0 N.toEx0).ex0 xw.toEx0;refine((A.shift N).shift xw).here (wn.write E s.nf (ob:=.fdc a) (ZX ob xs zM F)) {λ(α:B9) _ (H:Hp)=>H c=some _/\DenN X.K α H a xs/\DenL X.K α H _ vs,?_,{zM,F,(Q.ext N).ext xw},λC S1 H1 P S2 H2 ⟨J,G,L⟩ x w _=>{x.frz _ _ _ J,G.ex0 x.toEx0,DenL.ext x L},kN};intro i P S2 H2 ⟨J,G,L⟩ w2;have aa:=G.length;refine{λhi=>?_,λhi=>{J,by rw[lM]at hi;lia}};rw[lM]at hi;refine{{J,by lia},?_};rintro _ _ ⟨p,x,y,hp,rfl,hx,hy,rfl⟩;obtain⟨O,j⟩: ∃O,a[i]? =some O:={_,gE hi}
  refine(G.at' j).a λx' D dk=>?_;rw[hx]at D;cases D;refine(L.at (by rw[ë,j];rfl)).a λy' I dy=>?_;rw[hy]at I;cases I;have B:=w2.newx (o:=.tup [.ref x.2.1,y]) hp;refine{B,w2.new hp,{B.frz _ _ _ J,G.ex0 B.toEx0,L.ext B},.tup [O.1,O.2],by rw[ë,j];rfl,?_};exact nP (.of zM) (zT (dk.ext B) (zT (dy.ext B) yA))
 .exact A.elim
end
end M
end L2
namespace PySem
def getAttr?_miss_zip
  (u:s.heap.get? a=some {cls:=.type "zip",dict:=none,data:=.fields xs,slots:=sl}) (q:typeLookup (.type "zip") name=pure none) (c:(["__module__","__name__","__qualname__","__doc__","__annotations__"]:D0).contains name=false) (D:A.handled=none)
  (h: ∀h' v,↑8->Q none {s with heap:=h',toks:=v}) (hsz:name.length+100<=sizeLine:=by size_fits):
  wpAny ↑6 A (getAttr? (.ref a) name) Q E s:=by
 obtain⟨y,g,d,v,C⟩:=s;have B: ∀m,(⟨y,g,d,m,C⟩:Ō).TypeIs (.ref a) "zip":=λ_=>(Z3 _ u rfl)
 have H:=sub_AttributeError;have G:=F.slot_zip_getattribute.lookup;have L:=F.slot_zip_getattribute.bind (.ref a);have J:=(show typeLookup (.type "zip") "__getattr__"=pure none by rw[typeLookup_type];kernel_rfl);unfold getAttr? getAttrBy? getAttrBy
 repeat (any_goals (first |assumption|exact B _|((with_reducible show wpAny _ _ (call (Value.builtin "zip.__getattribute__") _ _) _ _ _);refine ģ F.slot_zip_getattribute (B _) (entryFor_alias (id':="object.__getattribute__") (by kernel_rfl) (by decide+kernel) (by decide+kernel) (by kernel_rfl)) (F.args_zip_getattribute_2 _ _) ((show Meets (Builtin.«object.__getattribute__» {[.ref a,.str name _],[]}) (λA R s=>s.heap.get? a=some {cls:=.type "zip",dict:=none,data:=.fields xs,slots:=sl}/\raisesAttr (.ref a) name A R s) from Meets.of_wp λprog w A R s hs=>by
    obtain⟨y,g,d,v,C⟩:=s;obtain⟨u,hs⟩:=hs
    repeat (any_goals (first |assumption|wp_step))
    simp only[c,fT0,iF]
    repeat (any_goals (first |assumption|wp_step))
    exact wpAny_raiseAttrError hs.1 hs.2 (attrMsg_fits (by decide+kernel) hsz))) {u,D,λh' m e j=>?_})|wp_step))
 refine j.there.k λK M I=>?_;show wpAny _ _ (getattributeRaised _ _ _ _ _ _ _) _ _ _;unfold getattributeRaised
 repeat (any_goals (first |assumption|wp_step))
 exact h _ _ j.keeps
def ZY(h:Q (s.heap.get? a) s):wpAny M A (loadIfAlive a) Q E s:=λ_ _ _=>h
end PySem
namespace L2
namespace M
open PySem PySem.Spec PyProof.Rows
noncomputable def Y1(b a:ō)(TI TO:Addr):Obj:={cls:=.type "zip",dict:=none,data:=.fields #[b,a,.bool false,.ref TI,.ref TO],slots:=#[]}
structure ZipSt2(k1 k2:Bool)(z TI TO i1 i2 l1 l2:Addr)(i:Nat)(h:Heap):Prop where
 z: ∃T b,h.get? z=some (Y1 (rawInt (T:Nat)) (.bool b) TI TO)/\T≠z/\T≠i1/\T≠i2/\ ∃o,h.get? T=some o
 ti:IsPair h TI (.ref i1) (.ref i2)
 s1:IsSub k1 h i1 l1 i
 s2:IsSub k2 h i2 l2 i
section
variable{TI TO:Addr}
def ZZ{T:Addr}(hz:s.heap.get? z=some (Y1 (rawInt  T ) (.bool b) TI TO))(j:s.heap.get? T=some o)
  (hQ: ∀h',h'.get? z=some (Y1 (rawInt  T ) (.bool true) TI TO)->Heap.SameBut z s.heap h'->Q false {s with heap:=h'}):
  wpAny ↑6 A (Builtin.SmallTypes.ownedTupleIsFree (.ref z)) Q E s:=by
 refine wB (ï hz rfl rfl ?_);show wpAny _ _ (loadIfAlive T >>= _) _ _ _;refine wB (ZY ?_);rw[j];rw[20];refine wB (ï hz rfl rfl ?_)
 cases b with
 |true=>
  refine wP (hQ s.heap hz ?_);exact{rfl,λ_ _=>rfl}
 |false=>
  rw[20];exact wB (ö hz (by simp) λh' c a=>wP (hQ h' c a))
theorem Kk{Q:VP}(D:Apart5 z TI TO i1 i2)(Y:Off l1 z TO i1 i2)(W:Off l2 z TO i1 i2)(st:ZipSt2 k1 k2 z TI TO i1 i2 l1 l2 i s.heap)(N:IsSeq k1 s.heap l1 xs)(C:IsSeq k2 s.heap l2 ys)(hx:xs[i]? =some x)(hy:ys[i]? =some y)
  (hQ: ∀h',ZipSt2 k1 k2 z TI TO i1 i2 l1 l2 (i+1) h'->IsPair h' ↑0 x y->
   (∀c o,c≠z->c≠i1->c≠i2->s.heap.get? c=some o->h'.get? c=some o)->Q (.ref ↑0) {s with heap:=h'}):
  wpAny ↑6 A (Builtin.«zip.__next__» {[.ref z],[]}) (λI s'=> ∃v,I=.done (.ret v)/\Q v s') E s:=by
 obtain⟨⟨T,b,K,O,P,X,U,S⟩,u,h1,h2⟩:=st;show wpAny _ _ (field _ 2 >>= _) _ _ _;refine wB (ï K rfl rfl ?_);refine wB (ï K rfl rfl (wB (Ė u rfl ?_)));refine wB (ZZ K S λha F a=>?_);simp only[List.forIn_toArray];refine wB (wB (wB (ð ?_)));refine wB (iY (h1.move λo e=>a.extBut _ _ D.i1z e) (N.move λo e=>a.extBut _ _ Y.1 e) hx λhb B m=>wP ?_);refine wP ?_;refine wB (wB (ð ?_));have J: ∀c o,c≠z->c≠i1->s.heap.get? c=some o->hb.get? c=some o:=λc o M L e=>m.extBut _ _ L (a.extBut _ _ M e);refine wB (iY (h2.move λo e=>J _ o D.i2z D.i12.symm e) (C.move λo e=>J _ o W.1 W.2.2.1 e) hy λhd G j=>wP ?_);refine wP (wP ?_);have q:=λc o M L n4 e=>j.extBut _ _ n4 (J c o M L e);have hsz:hd.objs.size=s.heap.objs.size:=by rw[j.1,m.1,a.1]
 refine wB (wpAny_newTuple (hsz:=by show 2<=sizeLine;decide) ?_);refine wP {_,rfl,?_};show Q _ _
 have H: ∀{n:Nat},n=↑0->hd.objs.size=n->Q _ {s with heap:=hd.push {cls:=.type "tuple",data:=.seq #[x,y]}}:=λ{n} e1 e2=>by
  subst e1;refine hQ _ {{T,true,hP0 _ (j.extBut _ _ D.i2z.symm (m.extBut _ _ D.i1z.symm F)),O,P,X,U,hP0 _ (q T U O P X S)},hP0 _ (q TI _ D.TIz D.TIi1 D.TIi2 u),?_,?_} ?_ λc o c1 Z c4 e=>hP0 _ (q c o c1 Z c4 e)
  .exact B.move λo e=>hP0 _ (j.extBut _ _ D.i12 e)
  .exact G.move λo e=>hP0 _ e
  .rw[<-e2];exact á _ rfl
 exact H hsz rfl
def Ps(N:A.handled=none)(D:Apart5 z TI TO i1 i2)(L:Off l1 z TO i1 i2)(M:Off l2 z TO i1 i2)(st:ZipSt2 k1 k2 z TI TO i1 i2 l1 l2 i s.heap)(u:IsSeq k1 s.heap l1 xs)(C:IsSeq k2 s.heap l2 ys)(m:xs[i]? =none\/ys[i]? =none)
  (hE: ∀h' e,(∀c o,c≠z->c≠i1->c≠i2->s.heap.get? c=some o->h'.get? c=some o)->(∃o,h'.get? e=some o/\o.cls=.type "StopIteration")->E (.ref e) {s with heap:=h'}):
  wpAny ↑6 A (Builtin.«zip.__next__» {[.ref z],[]}) Q E s:=by
 obtain⟨⟨T,b,K,Tz,T1,T2,oT,U⟩,F,O,W⟩:=st;show wpAny _ _ (field _ 2 >>= _) _ _ _;refine wB (ï K rfl rfl ?_);refine wB (ï K rfl rfl (wB (Ė F rfl ?_)));refine wB (ZZ K U λha S a=>?_);refine wB (wB (wB (ð ?_)))
 cases H:xs[i]? with
 |none=>
  exact wB (GW N (O.move λo e=>a.extBut _ _ D.i1z e) (u.move λo e=>a.extBut _ _ L.1 e) H λB e j y=>hE B e (λc o J v _ q=>j _ _ v (a.extBut _ _ J q)) y)
 |some x=>
  refine wB (iY (O.move λo e=>a.extBut _ _ D.i1z e) (u.move λo e=>a.extBut _ _ L.1 e) H λB P j=>wP ?_);refine wP ?_;refine wB (wB (ð ?_));have I: ∀c o,c≠z->c≠i1->s.heap.get? c=some o->B.get? c=some o:=λc o Z Y e=>j.extBut _ _ Y (a.extBut _ _ Z e);exact wB (GW N (W.move λo e=>I _ o D.i2z D.i12.symm e) (C.move λo e=>I _ o M.1 M.2.2.1 e) (by rcases m with h|h;(rw[H]at h;cases h);exact h) λhd e G y=>hE hd e (λc o J v X q=>G _ _ X (I c o J v q)) y)
end
def ZSt(c m:Bool)(z TI TO j o a b:Addr)(i:Nat)(h:Heap):Prop:=ZipSt c m z TI TO j o a b i h\/ZipSt2 c m z TI TO j o a b i h
section
variable{TI TO:Addr}
def Xq(D:Apart5 z TI TO i1 i2)(B:Off l1 z TO i1 i2)(I:Off l2 z TO i1 i2)(st:ZSt k1 k2 z TI TO i1 i2 l1 l2 i s.heap)(m:IsSeq k1 s.heap l1 xs)(a:IsSeq k2 s.heap l2 ys)(H:xs[i]? =some x)(C:ys[i]? =some y)
  (hQ: ∀h',ZSt k1 k2 z TI TO i1 i2 l1 l2 (i+1) h'->IsPair h' ↑0 x y->(∀c o,c≠z->c≠TO->c≠i1->c≠i2->s.heap.get? c=some o->h'.get? c=some o)->Q (some (.ref ↑0)) {s with heap:=h'}):
  wpAny ↑6 A (pyNext (.ref z)) Q E s:=by
 rcases st with st|st
 .have j:s.TypeIs (.ref z) "zip":={_,st.z,rfl}
  have v:=â st.z;obtain⟨p1,L,_⟩:=st.s1.there;refine st.s2.there.a λp2 P _=>?_
  refine wB (ċ (í j č (é č j Ł
   (ZA D B I st m a H C λh' q J u M G F=>wP (hQ h' (.inr {{↑0,false,q,ø v,ø (â L),ø (â P),_,G},F TI _ D.TIz D.TITO D.TIi1 D.TIi2 st.ti,u,M}) G F)) (ķ _))))
 .refine st.z.d λT b v _=>?_;have j:s.TypeIs (.ref z) "zip":={_,v,rfl}
  refine wB (ċ (í j č (é č j Ł
   (Kk D B I st m a H C λh' q J u=>wP (hQ h' (.inr q) J λc o O _ K N e=>u c o O K N e)) (ķ _))))
def Y2(G:A.handled=none)(D:Apart5 z TI TO i1 i2)(C:Off l1 z TO i1 i2)(F:Off l2 z TO i1 i2)(st:ZSt k1 k2 z TI TO i1 i2 l1 l2 i s.heap)(u:IsSeq k1 s.heap l1 xs)(m:IsSeq k2 s.heap l2 ys)(a:xs[i]? =none\/ys[i]? =none)
  (hQ: ∀h',(∀c o,c≠z->c≠TO->c≠i1->c≠i2->s.heap.get? c=some o->h'.get? c=some o)->Q none {s with heap:=h'}):
  wpAny ↑6 A (pyNext (.ref z)) Q E s:=by
 rcases st with st|st
 .have q:s.TypeIs (.ref z) "zip":={_,st.z,rfl}
  refine wB (ċ (í q č (é č q Ł
   (Fp G D C F st u m a λh' e B v=>?_) (ķ _))))
  obtain⟨o,y,j⟩:=v;exact wB (ĩ ⟨o,y,j⟩ isSubtype_stop (wP (hQ h' B)))
 .refine st.z.d λT b K _=>?_;have q:s.TypeIs (.ref z) "zip":={_,K,rfl}
  refine wB (ċ (í q č (é č q Ł
   (Ps G D C F st u m a λh' e B v=>?_) (ķ _))))
  obtain⟨o,y,j⟩:=v;exact wB (ĩ ⟨o,y,j⟩ isSubtype_stop (wP (hQ h' λc o J _ H I e=>B c o J H I e)))
def ZSt.frame(st:ZSt k1 k2 z TI TO i1 i2 l1 l2 i h)(hd:d≠z/\d≠TI/\d≠TO/\d≠i1/\d≠i2)(k: ∀b o,b≠d->h.get? b=some o->h'.get? b=some o)(s: ∃o,h'.get? d=some o):ZSt k1 k2 z TI TO i1 i2 l1 l2 i h':=by
 refine hd.p λq c u j m=>?_;rcases st with⟨hz,hTI,⟨a,b,hTO⟩,h1,h2⟩|⟨⟨T,b,hz,Tz,T1,T2,oT,hT⟩,hTI,h1,h2⟩
 .exact .inl {k _ _ q.symm hz,k _ _ c.symm hTI,(Y6 a b (k _ _ u.symm hTO)),h1.move λo e=>k _ o j.symm e,h2.move λo e=>k _ o m.symm e}
 .refine .inr {(Ys T b (k _ _ q.symm hz) Tz T1 T2 ?_),k _ _ c.symm hTI,h1.move λo e=>k _ o j.symm e,h2.move λo e=>k _ o m.symm e};by_cases e:T=d
  .rw[e];exact s
  .exact{oT,k _ _ e hT}
end
section
variable{K:Type}[DecidableEq K]{knd:KeyKind prog w K}{R:Result->Ō->Prop}{TI TO:Addr}
theorem Xr(hh:A.in1.handled=none)(P:Apart5 z TI TO i1 i2)(Y:Off l1 z TO i1 i2)(o2:Off l2 z TO i1 i2)(hd:D≠z/\D≠TI/\D≠TO/\D≠i1/\D≠i2)(O:IsSeq k1 h₀ l1 xs)(I:IsSeq k2 h₀ l2 ys)(kvs)(hz:kvs.length<=sizeLine)
  (hkv: ∀(i:Nat) G ,kvs[i]? =some G-> ∃x,xs[i]? =some x/\ys[i]? =some G.2/\knd.is G.1 x=true) (hend:xs[kvs.length]? =none\/ys[kvs.length]? =none)
  (fz:h₀.get? z=none) (fTO:h₀.get? TO=none) (f1:h₀.get? i1=none) (f2:h₀.get? i2=none) (fD:h₀.get? D=none):
  ∀ k i  j  s ,kvs.length - i=k->i<=kvs.length->ZSt k1 k2 z TI TO i1 i2 l1 l2 i s.heap->s.heap.DictOf knd D (merged [] (kvs.take i))->(∀b o,h₀.get? b=some o->s.heap.get? b=some o)->
   (∀h' tk,(∀b o,h₀.get? b=some o->h'.get? b=some o)->h'.DictOf knd D (merged [] kvs)->R (.ok (.ret .none)) {s with heap:=h',toks:=tk})->
   codeAny ↑6 A (.builtin "dict.update.loop" {[.ref D,.ref z,rawInt j,.none],[]}) R s:=by
 have E: ∀{b c:Addr}{o:Obj},h₀.get? b=some o->h₀.get? c=none->b≠c:=λe n q=>by rw[q,n]at e;cases e
 have old: ∀{h h':Heap},(∀b o,h₀.get? b=some o->h.get? b=some o)->(∀c o,c≠z->c≠TO->c≠i1->c≠i2->h.get? c=some o->h'.get? c=some o)-> ∀b o,h₀.get? b=some o->h'.get? b=some o:=λa c b o e=>c b o (E e fz) (E e fTO) (E e f1) (E e f2) (a b o e);refine hd.p λd1 d2 S Z d5=>?_;have dk: ∀{h h':Heap}{m:List _},h.DictOf knd D m->(∀c o,c≠z->c≠TO->c≠i1->c≠i2->h.get? c=some o->h'.get? c=some o)->h'.DictOf knd D m:=λ⟨o,es,ep,X,r⟩ c=>(YX o es ep (c D o d1 S Z d5 X) r)
 intro k
 induction k with
 |zero=>
  intro i j s hk hi C Q u U;have T:i=kvs.length:=by lia
  subst T;refine Ď PySem.F.entry_dict_update_loop ?_;rw[ď PySem.F.plain_dict_update_loop _];refine wB (Y2 hh P Y o2 C (O.move λo e=>u _ o e) (I.move λo e=>u _ o e) hend λh' v=>?_);refine wB (wP ?_);rw[take_length]at Q;exact wP (U h' s.toks (old u v) (dk Q v))
 |succ k ih=>
  intro i j s hk hi C Q u U;have L:i<kvs.length:=by lia
  obtain⟨G,B⟩: ∃G,kvs[i]? =some G:={_,gE L}
  refine(hkv i G B).c λx hx hy N=>?_;refine Ď PySem.F.entry_dict_update_loop ?_;rw[ď PySem.F.plain_dict_update_loop _];show wpAny _ A.in1 _ _ _ s;refine wB (Xq P Y o2 C (O.move λo e=>u _ o e) (I.move λo e=>u _ o e) hx hy λh' J K v=>?_);refine wB (ð ?_);refine wB (wpAny_tryCatch ?_);unfold Builtin.Dict.pairItems;refine wB (Č ((Z3 _ K rfl)) ?_);rw[iP ↑15];refine wB ?_;rw[20];refine wB (wpAny_load K ?_);refine wP (wP ?_);rw[20];refine ð ?_;have ab:=merged_length_le [] (kvs.take i);have aa:=List.length_take_le' i kvs;refine wpAny_dictSet_pairs N (dk Q v) λh2 H M=>?_;have y: ∀b o,h₀.get? b=some o->h2.get? b=some o:=λb o e=>by rw[M.2 b (E e fD)];exact(old u v) b o e
  refine wP {ġ PySem.F.plain_dict_update_loop _,ih _ _ _ #[0] L (J.frame ⟨d1,d2,S,Z,d5⟩ (λb o hb e=>by rw[M.2 b hb];exact e) ?_) ?_ y λh3 W k3 S=>U h3 W k3 S}
  .refine(id H).m λo _ _ X _=>?_;exact⟨o,X⟩
  .rw[merged_take_succ _ _ _ _ B];exact H
def RN(H:A.handled=none)(P:Apart5 z TI TO i1 i2)(N:Off l1 z TO i1 i2)(X:Off l2 z TO i1 i2)(st:ZipSt D k2 z TI TO i1 i2 l1 l2 0 s.heap)(j: ∀b o,h₀.get? b=some o->s.heap.get? b=some o)
  (hl1:IsSeq D h₀ l1 xs) (hl2:IsSeq k2 h₀ l2 ys) (hz:kvs.length<=sizeLine) (hkv: ∀(i:Nat) kv ,kvs[i]? =some kv-> ∃x,xs[i]? =some x/\ys[i]? =some kv.2/\knd.is kv.1 x=true) (hend:xs[kvs.length]? =none\/ys[kvs.length]? =none)
  (fz:h₀.get? z=none) (fTO:h₀.get? TO=none) (f1:h₀.get? i1=none) (f2:h₀.get? i2=none)
  (h: ∀h' I,(∀b o,h₀.get? b=some o->h'.get? b=some o)->h'.DictOf knd ↑0 (merged [] kvs)->Q (.ref ↑0) {s with heap:=h',toks:=I}):
  wpAny ↑6 A (call (.type "dict") [.ref z]) Q E s:=by
 refine callType_codes (Q₁:=λB m=>B=.ref ↑0/\m={s with heap:=s.heap.push {cls:=.type "dict",data:=.dict #[]}}) PySem.F.kt_called_dict (PySem.F.kt_typeCall_dict_1 _) PySem.F.entry_dict_init (kt_code_dict_new _ ⟨rfl,rfl⟩) ?_;rintro B m ⟨rfl,rfl⟩;have c:(s.heap.push {cls:=.type "dict",data:=.dict #[]}).DictOf knd ↑0 []:=Heap.DictOf.new s.heap;have G: ∀b o,s.heap.get? b=some o->(s.heap.push {cls:=.type "dict",data:=.dict #[]}).get? b=some o:=λb o e=>hP0 _ e;refine{c.typeIs,PySem.F.args_dict_init_2 _ _,?_};refine wB ?_;refine wB (Ĝ c.typeIs ?_);refine wP ?_;show wpAny _ _ (Builtin.Dict.updateFrom "dict.__init__" ↑0 _ [] .none) _ _ _;refine wB (Č (Z3 _ (G _ _ st.z) rfl) ?_);refine wB (getAttr?_miss_zip (G _ _ st.z) (am_miss_of_fast (by decide+kernel)) (by decide+kernel) H (λY O D=>?_) (by decide+kernel));refine wB (Ě ?_);obtain⟨q,y,⟨a,b,v⟩,K,M⟩:=st;have u:=λb o e=>D b o (G b o e);refine wB (wpAny_pyIter_zip (u _ _ q) ?_);have ne: ∀{b:Addr}{o:Obj},s.heap.get? b=some o->↑0≠b:=λe=>ø (â e);refine K.there.a λp1 W _=>?_;refine M.there.a λp2 U _=>?_;refine wP {ġ PySem.F.plain_dict_update_loop _,Xr (by first |exact H|exact H) P N X {ne q,ne y,ne v,ne W,ne U} hl1 hl2 kvs hz hkv hend fz fTO f1 f2 ?_ _ 0 0 _ rfl (zero_le _) (.inl {u _ _ q,u _ _ y,(Y6 a b (u _ _ v)),K.move λo e=>u _ o e,M.move λo e=>u _ o e}) ?_ (λb o e=>u b o (j b o e)) λh' I T J=>{rfl,h h' I T J}}
 .cases C:h₀.get? ↑0 with
  |none=>rfl
  |some L=>exact absurd (â (j _ _ C)) (Į _)
 .refine c.m λL es S C rest=>?_;exact YX L es S (D _ _ C) rest
end
section
variable{X:Cx}{α:B9}{H:Hp}{a b:Expr}{p1 p2 pos pos2:Pos}
def tDZ(X:Cx)(m:TA):TE:=λσ H Q=>m σ H λvs a=> ∃(o q:Bool)(b c:Addr)(us j:List V)(ks:List Key),vs=[.ref b,.ref c]/\QT o X.K a b us/\QT q X.K a c j/\us=ks.map kV/\X.calm=true/\ ∀d,a d=none->Q (.ref d) (yP a d (.dK (KY (ks.zip j))))
theorem Pt(X:Cx): ∀{ks:List Key}{is m}{q},Vals (ks.map kV) is->Vals q m->KV (ks.zip q) (ks.zip m)/\ ∀(i:Nat) j ,(ks.zip m)[i]? =some j-> ∃x,is[i]? =some x/\m[i]? =some j.2/\(wX X.prog X.w).is j.1 x=true
 |[],_,_,_,_,_=>{.nil,λi j h=>by simp at h}
 |k::ks,_,_,_,.cons r t,.nil=>{.nil,λi j h=>by simp at h}
 |k::ks,_,_,_,.cons r t,.cons r' t'=>by
  obtain⟨u,v⟩:=Pt X t t';refine{.cons ⟨rfl,r'⟩ u,λi j h=>?_}
  cases i with
  |zero=>cases h;exact Z0 _ rfl rfl (OW r)
  |succ i=>exact v i j h
theorem Xs(F:Gl X "dict")(Y:X.mg "dict"=none)(D:Gl X "zip")(J:X.mg "zip"=none)(ha:PA X [a,b] ta)(hs:starEach [a,b] X.env=[(false,eval a X.env),(false,eval b X.env)]:=by rfl)(y:starEach [b] X.env=[(false,eval b X.env)]:=by rfl)
  (hz:starEach [.Call (.Name "zip" p2) [a,b] [] pos2] X.env=[(false,eval (.Call (.Name "zip" p2) [a,b] [] pos2) X.env)]:=by rfl):
  PE X (.Call (.Name "dict" p1) [.Call (.Name "zip" p2) [a,b] [] pos2] [] pos) (tDZ X ta):=by
 rw[22];refine Call_ (pT I F Y MP (ĉ ?_ (by rw[hz];rfl) (by rfl)));refine Calls.spliced_cons ?_;refine Call_ (pT I D J Oh (ĉ (xV (ha pos2 pins s σ H _ I h) λus j ⟨vs,H1,I1,r1,O⟩=>?_) (by exact qq hs (qq y rfl)) (by rw[y];rfl)));obtain⟨k1,k2,l1,l2,aa,W,K,rfl,c1,U,rfl,hc,q⟩:=O
 cases r1 with
 |cons r rr=>
  cases rr with
  |cons r' rr=>
   cases rr;subst r;subst r';refine(I1.seqK c1).c λS N p1 z1=>?_;refine(I1.seqK U).c λm M p2 z2=>?_;refine ZC p1 p2 λh' st u=>Calls.spliced_nil ?_;obtain⟨Z,e2⟩:=Pt X N M;have L:=N.length;have n2:=M.length;rw[lM]at L
   have lt: ∀{k:Bool}{l:Addr}{B:B0},IsSeq k j.heap l B->l<j.heap.objs.size:=λ{k} {l} {B} p=>by
    cases k with
    |true=>obtain⟨o,e,_⟩:=(p:j.heap.IsList l B);exact â e
    |false=>obtain⟨o,e,_⟩:=(p:j.heap.IsTuple l B);exact â e
   have v: ∀{l:Addr},l<j.heap.objs.size->Off l (j.heap.objs.size+4) (j.heap.objs.size+3) j.heap.objs.size (j.heap.objs.size+1):=λ{l} h=>by exact{å (ä h (Ğ _ _)),å (ä h (Ğ _ _)),å h,å (ä h (Ğ _ _))}
   have A: ∀n,j.heap.objs.size<=n->j.heap.get? n=none:=λn P=>by
    cases F:j.heap.get? n with
    |none=>rfl
    |some oo=>exact absurd (â F) (Nat.not_lt.mpr P)
   have c:j.heap.objs.size<=h'.objs.size:=by
    have:=â st.z;have h4:=this
    lia
   refine RN (knd:=wX X.prog X.w) (kvs:=K.zip m) (I1.ok.hd hc) (apart_new _) (v (lt p1)) (v (lt p2)) st u p1 p2 (by rw[ļ];lia) (λi kv hi=>?_) ?_ (A _ (Ğ _ _)) (A _ (Ğ _ _)) (A _ (à _)) (A _ (Ğ _ _)) λh2 tk G E=>?_
   .refine(e2 i kv hi).c λx g1 g2 g3=>?_;exact Z0 x (by simpa using g1) (by simpa using g2) g3
   .rw[ļ];by_cases C:K.length<=m.length
    .left;refine qq (min_eq_left C) (qq L ?_);simp
    .right;rw[min_eq_right #[0]];simp
   .have T:=TH (K.zip W);rw[ļ]at T;refine Z2 (.ref h'.objs.size) _ (I1.laid G c (show ObjOk X.prog X.w _ h2 _ (.dK (KY _))from{by lia,Ĉ.mpr (Ne.symm (å (ä (OM I1) c))),_,WF Z .nil,E})) rfl (q _ (I1.hok.fresh c))
def Y3:List Er->Sto->R Er
 |[p,q],S=>match srcOf S p with
  |some a=>match srcOf S q with
   |some b=>if a.ds.all sM=true then .ok (.val (.loc S.length)) (S++[.dic (Ge (a.ds.zip b.ds))])else .no
   |none=>.no
  |none=>.no
 |_,_=>.no
theorem Aa: ∀{ds}{us},ds.all sM=true->DenL X.K α H ds us-> ∃ks:List Key,us=ks.map kV/\ ∀{es}{j},DenL X.K α H es j->DenK X.K α H (ds.zip es) (ks.zip j)
 |[],us,_,l=>{[],by rw[l.isnil];rfl,λ_=>.nil}
 |d::ds,us,h,l=>by
  refine l.uncons.b λv r k m q=>?_;subst k;rw[List.all_cons,aE]at h;obtain⟨c,a⟩:=ê.mp h.1;refine(Aa h.2 q).a λks y f=>?_;subst y;refine Z3 (c::ks) (by rw[De a m];rfl) (λ{es} {j} le=>?_)
  cases es with
  |nil=>rw[le.isnil];exact .nil
  |cons e es=>
   refine le.uncons.b λs u A o b=>?_;subst A;exact .cons (Dc a) o (f b)
def Xt(hc:X.calm=true)(M:Gl X "dict")(hm:X.mg "dict"=none)(s:Gl X "zip")(y:X.mg "zip"=none)(A:KQ X W [a,b] af)(hs:starEach [a,b] X.env=[(false,eval a X.env),(false,eval b X.env)]:=by rfl)(w:starEach [b] X.env=[(false,eval b X.env)]:=by rfl)
  (hz:starEach [.Call (.Name "zip" p2) [a,b] [] pos2] X.env=[(false,eval (.Call (.Name "zip" p2) [a,b] [] pos2) X.env)]:=by rfl):
  zS X W (.Call (.Name "dict" p1) [.Call (.Name "zip" p2) [a,b] [] pos2] [] pos) (λρ S=>(af ρ S).bind Y3):=by
 refine A.a λt A k=>?_;refine Z3 _ (Xs M hm s y A hs w hz) (λα ρ S σ H Q P sl q=>k α ρ S σ H _ P sl (q.bind λvs rs S1 aa H1 e O j L c=>?_))
 replace c:=c.shift O
 unfold Y3 at c;split at c
 .rename_i r1 r2;split at c
  .rename_i F e1;split at c
   .rename_i s2 Z;split at c
    .rename_i N;refine(A3 L).b λu v V I U=>?_;subst V;refine(IX j e1 I).b λY P1 ac p1 J=>?_;subst ac;refine(IX j Z U).b λG P2 am p2 D2=>?_;subst am;refine(J.get _ _ _ p1).a λus g1 T=>?_;refine(D2.get _ _ _ p2).a λC g3 K=>?_;refine(Aa N T).a λD ap f=>?_;subst ap;refine Yg F.k s2.k Y G _ C D {rfl,g1,g3,rfl,hc,(λp E=>?_)};have B:=j.newx (o:=.dK (KY (D.zip C))) E;obtain⟨x,w'⟩:=j.put (m:=.dic _) E (.inl {_,zM,(JG (f K) .nil).ex0 {{[p],rfl},B.tup,B.frz}});exact c _ _ _ x w' (DenE.val (oR (by rw[<-j.len,æ (à _),sub_self];rfl)))
    .exact c.elim
   .exact c.elim
  .exact c.elim
 .exact c.elim
end
section
open PySem.SeqAt
open PySem.AutoSeq1 (wpAny_loadPart')
open PySem.MeetsSeq PySem.MeetsSeq2 PySem.MeetsSeq3
theorem Kl(l b)(items items2)(n n2)(dd dd2)(sl sl2)(kk)(k):
  ∀i:Nat,items.size - i=k->i<=items.size->i<=items2.size->Meets (Builtin.«list.__eq__.loop» {[.ref l,.ref b,rawInt i,rawInt 0],[]})
   (λA R s=>s.heap.get? l=some {cls:=.type "list",dict:=dd,data:=.seq items n,slots:=sl}/\s.heap.get? b=some {cls:=.type "list",dict:=dd2,data:=.seq items2 n2,slots:=sl2}/\
    LexR A.in1 s (items.toList.drop i) (items2.toList.drop i) kk/\R (.ok (.ret (.bool kk))) s):=by
 induction k with
 |zero=>
  intro i J K H prog w A R s h;obtain⟨G,g,d,L,I⟩:=s;obtain⟨q,o,m,h⟩:=h
  wp_walk using ÿ q,ÿ o
  have j:items[((i:Nat):Int).toNat]? =none:=by simp;lia
  have hd:items.toList.drop i=[]:=by simp;lia
  rw[hd]at m
  have D:kk=decide (items.size<items2.size):=by
   generalize E:items2.toList.drop i=zs at m;have a:=congrArg List.length E;rw[Ĩ,î]at a
   cases m with
   |nn=>simp only[ă]at a;exact(dF0 #[0]).symm
   |nc x xs=>simp only[lC]at a;exact(dT0 #[0]).symm
  rw[D]at h;rw[j]
  cases c:items2[((i:Nat):Int).toNat]? with
  |none=>
   wp_walk using ÿ q,ÿ o
   exact h
  |some y=>
   wp_walk using ÿ q,ÿ o
   exact h
 |succ k ih=>
  intro i J K H prog w A R s h;obtain⟨G,g,d,L,I⟩:=s;obtain⟨q,o,m,h⟩:=h
  wp_walk using ÿ q,ÿ o
  have B:i<items.size:=by lia
  have j:items[((i:Nat):Int).toNat]? =some items[i]:=by simp[B]
  have hd:items.toList.drop i=items[i]::items.toList.drop (i+1):=by rw[ĕ (by simpa using B)];simp
  have F:((i:Int)+1)=((i+1:Nat):Int):=by push_cast;rfl
  rw[hd]at m;by_cases u:i<items2.size
  .have c:items2[((i:Nat):Int).toNat]? =some items2[i]:=by simp[u]
   have v:items2.toList.drop i=items2[i]::items2.toList.drop (i+1):=by rw[ĕ (by simpa using u)];simp
   rw[v]at m;rw[j,c]
   cases m with
   |eq he hr=>
    refine wB (he prog w _ _ ?_)
    wp_walk
    rw[F];exact{ġ plain_eq_loop _,Ď entry_eq_loop (by rw[ď plain_eq_loop _];exact ih (i+1) #[0] #[0] #[0] prog w A R _ ⟨q,o,hr,h⟩)}
   |ne he hr=>
    refine wB (he prog w _ _ ?_);have C:=hr prog w
    wp_walk using ÿ q,ÿ o
    rw[j,c]
    wp_walk using C
    exact h
  .have c:items2[((i:Nat):Int).toNat]? =none:=by simp;lia
   have v:items2.toList.drop i=[]:=by simp;lia
   rw[v]at m;cases m;have D:decide (items.size<items2.size)=false:=dF0 #[0];rw[<-D]at h;rw[j,c]
   wp_walk using ÿ q,ÿ o
   exact h
def Km(l b)(items items2)(n n2)(dd dd2)(sl sl2)(kk):
  Meets (Builtin.«list.__lt__» {[.ref l,.ref b],[]})
   (λA R s=>s.heap.get? l=some {cls:=.type "list",dict:=dd,data:=.seq items n,slots:=sl}/\s.heap.get? b=some {cls:=.type "list",dict:=dd2,data:=.seq items2 n2,slots:=sl2}/\
    LexR A.in1 s items.toList items2.toList kk/\R (.ok (.ret (.bool kk))) s):=by
 intro prog w A R s h;obtain⟨q,g,d,u,o⟩:=s;refine h.g λc a j h=>?_;have m:=AutoSeq1.sub_list_list
 wp_walk using ÿ c,ÿ a
 exact{ġ plain_eq_loop _,Ď entry_eq_loop (by exact Kl l b items items2 n n2 dd dd2 sl sl2 kk _ 0 rfl (zero_le _) (zero_le _) prog w A R _ {c,a,by simpa using j,h})}
end
def LstAt(h:Heap)(a:Addr)(b:A0):Prop:= ∃o n,h.get? a=some o/\o.cls=.type "list"/\o.data=.seq b.toArray n
section
def Pu(w:keys≠[])(h: ∀x,x∈keys-> ∃a j,x=.ref a/\LstAt s.heap a j):
  wpAny M A (keyKind' keys.toArray) (λk m=>m=s/\k=oneType') E s:=by
 rw[keyKind'_eq];refine wB (þ (Srt.wp_mapMA (g:=λ_=>(none:Option ō)) λx q=>?_) (λr m u=>?_) λ_ _ e=>e)
 .obtain⟨a,j,rfl,o,n,v,c,B⟩:=h x q;refine wB (Č ⟨o,v,c⟩ ?_);exact wP ⟨rfl,rfl⟩
 .obtain⟨rfl,rfl⟩:=u
  match keys,w,h with
  |x::l,w,h=>
   rw[iN (by simp)];refine wB (wB (þ (Srt.wp_mapMA (g:=λ_=>Value.type "list") λx q=>?_) (λr m u=>?_) λ_ _ e=>e))
   .obtain⟨a,j,rfl,o,n,v,c,B⟩:=h x q;exact Č ⟨o,v,c⟩ ⟨rfl,rfl⟩
   .obtain⟨rfl,rfl⟩:=u;have y:(List.map (λ_=>Value.type "list") (x::l)).toArray[0]? =some (Value.type "list"):=by simp
    have b:((List.map (λ_=>Value.type "list") (x::l)).toArray.all λx=>x==Value.type "list")=true:=by simp only[all_toArray,all_map,ü];intro _ _;rfl
    rw[y];dsimp only;rw[b];exact wP (wP ⟨rfl,rfl⟩)
theorem Kn(L:A.units+2<cLine)(K:LstAt s.heap l its)(G:LstAt s.heap b its2)(H:LexR A.in1 s its its2 k)(B:Q k s):
  wpAny ↑6 A (keyLt' oneType' (.ref l) (.ref b)) Q E s:=by
 refine K.b λM n m D hd=>?_;obtain ⟨C,J,y,sl⟩:=M;refine G.b λN I a u c=>?_;obtain ⟨v,q,j,o⟩:=N;subst D hd u c;rw[keyLt'_oneType];refine wB (wpAny_cRoomFor #[0] ?_);refine wB (wpAny_callSpecialIfBound?_slot {_,m,rfl} PySem.F.slot_list_lt (ģ PySem.F.slot_list_lt {_,m,rfl} PySem.F.entry_list_lt (PySem.F.args_list_lt_2 _ _) (Km l b _ _ n I J q sl o k) {m,a,H,?_}));exact Ċ B
end
def KX(l:Bool)(K:O0)(α:B9)(H:Hp)(d:MV)(v:V):Prop:=if l=true then∃es a vs,d=.tup es/\v=.ref a/\H a=some (.lst vs)/\a∉α/\DenL K α H es vs else Den K α H d v
inductive KXL(l:Bool)(K:O0)(α:B9)(H:Hp):List MV->List V->Prop
 |nil:KXL l K α H [] []
 |cons {d v ds vs}:KX l K α H d v->KXL l K α H ds vs->KXL l K α H (d::ds) (v::vs)
noncomputable def Ko(l:Bool)(d:MV):Er:=if l=true then(match d with |.tup es=>.new es|d=>.val d)else .val d
def Sd(l b:Bool)(d:MV):Prop:=if l=true then∃es,d=.tup es else KindD b d
abbrev Gh(l b:Bool):SortKind:=if l=true then oneType' else Ox b
section
variable{K:O0}
def KX.ext(x:Ext α H α H')(h:KX l K α H d v):KX l K α H' d v:=by
 cases l with
 |true=>refine h.i λes a vs b c h n l=>?_;exact Y4 es a vs b c (x.keep a _ h n) n (DenL.ext x l)
 |false=>exact Den.ext x h
def KXL.ext(x:Ext α H α H'): ∀{ds}{vs},KXL l K α H ds vs->KXL l K α H' ds vs:=λa=>by
 induction a with
 |nil=>exact .nil
 |cons h t ih=>exact .cons (h.ext x) (ih)
def KXL.length: ∀{ds}{vs},KXL l K α H ds vs->↑9=ds.length:=λa=>by
 induction a with
 |nil=>exact rfl
 |cons h t ih=>exact by rw[lC,lC,ih]
def KXL.append: ∀{ds es}{vs us},KXL l K α H ds vs->KXL l K α H es us->KXL l K α H (ds++es) (vs++us):=λb=>by
 induction b with
 |nil=>exact(λh=>h)
 |cons a t ih=>exact(λh=>.cons a (ih h))
theorem KXL.at: ∀{ds}{vs}{i:Nat}{d},KXL l K α H ds vs->ds[i]? =some d-> ∃v,vs[i]? =some v/\KX l K α H d v
 |_,_,0,_,.cons h t,e=>by cases e;exact Z3 _ rfl h
 |_,_,i+1,_,.cons h t,e=>KXL.at (i:=i) t e
def KXL.get(q:KXL l K α H ds vs): ∀{i:Nat}{v},vs[i]? =some v-> ∃d,ds[i]? =some d/\KX l K α H d v:=by
 induction q with
 |nil=>intro i v e;cases e
 |cons h t ih=>
  intro i v e
  cases i with
  |zero=>cases e;exact Z3 _ rfl h
  |succ i=>exact ih e
def KXL.den: ∀{ds}{vs},KXL false K α H ds vs->DenL K α H ds vs
 |_,_,.nil=>yA
 |_,_,.cons h t=>zT h t.den
end
section
variable{X:Cx}{l:Bool}{α:B9}{S:Sto}{H:Hp}{pins:L0}{σ:St}
structure LpX(l:Bool)(X:Cx)(pins:L0)(σ:St)(α:B9)(S:Sto)(H:Hp)(L KS:Addr)(e1:Nat)(kds:Q0)(m:Nat)(s':Ō):Prop where
 go: ∃(H':Hp)(ks:A0)(n:Nat)(kvs:List V),Inv X pins σ H' s'/\Ext α H α H'/\Wd X.g α S H'/\s'.heap.get? L=some (seqObj "list" #[] e1)/\s'.heap.get? KS=some (seqObj "list" ks.toArray n)/\H' L=none/\H' KS=none/\
  Vals kvs ks/\KXL l X.K α H' (kds.take m) kvs
theorem Pw(F:FnOk X.prog X.w X.K X.mg X.base rE k fa fd ps (KR X.g 1 Fd))(hr:Room (k+2) X.A)(c:Binds X.K fd ps [])(O:L≠KS)
  (fL: ∀H',H' L=none->rZ X pins H' L) (fK: ∀H',H' KS=none->rZ X pins H' KS) (dl:DenL X.K α H ds xs) (rv:Vals xs its) (hlen:↑11<64) (hkl:kds.length=↑11)
  (hk: ∀(m:Nat) d kd,ds[m]? =some d->kds[m]? =some kd->zC 1 Fd [.val d] S=.ok (Ko l kd) S) (hkind: ∀d,d∈kds->Sd l b d)   (hx:its[m]? =some x)   
  (h:LpX l X pins σ α S H L KS e1 kds m s) (hp: ∀s',LpX l X pins σ α S H L KS e1 kds (m+1) s'->P (.yield ⟨⟩) s'):wpAny ↑5 X.A.in1.in1 (Srt.kStep L fa A' (.ref KS) x) P E' s:=by
 refine h.go.j λH' G n J V=>V.s λI xt wd gL gK nL nK Z dk=>?_;have hm:m<xs.length:=by rw[rv.length];exact(gS.mp hx).1
 obtain⟨xv,y⟩: ∃xv,xs[m]? =some xv:={xs[m],gE hm}
 refine(rv.get y).a λx' C rx=>?_;rw[hx]at C;cases C;refine(dl.get y).a λd hd dd=>?_;obtain⟨kd,q⟩: ∃kd,kds[m]? =some kd:={kds[m]'(by rw[hkl, <-dl.length];exact hm),gE _}
 have I2:=I.pinned (λb c=>by
  rcases mC.mp c with rfl|c
  .exact fL _ nL
  .rw[mS.mp c];exact fK _ nK) (λb c=>by
  rcases mC.mp c with rfl|c
  .exact(Z3 _ gL (λv z=>by cases z))
  .rw[mS.mp c];exact Z3 _ gK (λv z=>by cases z))
 have pl:EO [L,KS] s.heap=[(L,seqObj "list" #[] e1),(KS,seqObj "list" G.toArray n)]:=by unfold EO;simp[gL,gK]
 rw[pl]at I2;refine wB (ċ (þ (Wp (Q:=λu j=> ∃a,Ext α H' a j/\Wd X.g a S j/\KX l X.K a j kd u) F hr c I2 (.cons rx .nil) ?_) (λu s2 h2=>?_) λ_ _ e=>e))
 .refine IU (W:=W0) (Ext.refl α H') wd (.cons (DenE.val (dd.ext xt)) (λds b e=>by cases e) .nil) ?_;rw[(hk m d kd hd q)];exact λu a j B E M=>(Z0 a B E (by
   have k:=(hkind kd (ò q))
   have h:=M.1
   cases l with
   |true=>obtain⟨es,rfl⟩:=k;refine h.l λb vs e h n l=>?_;exact Y4 es b vs rfl e h n l
   |false=>exact h))
 .obtain⟨v,j,T,U,a,B,E,M⟩:=h2;have N:=V6 wd B E;subst N;have pL:=T.pin (L,seqObj "list" #[] e1) (by simp);have D:=T.pin (KS,seqObj "list" G.toArray n) (by simp);have kl:G.length<64:=by rw[<-Z.length,dk.length,lT];lia
  refine wB (listUpdate_at D.1 rfl ?_ (by rw[sA];have:=ý;lia) (by rw[Array.size_push,sA];have:=ý;lia));obtain⟨n',Y⟩: ∃n',(s2.heap.update KS (Obj.mapSeq λv=>v.push u)).get? KS=some _:={_,by have:=get?_update_seq D.1 (λv=>v.push u);rw[List.push_toArray]at this;exact this}
  refine wP (hp _ {j,G++[u],n',J++[v],?_,xt.trans B,E,?_,Y,pL.2.1,D.2.1,Z.append (.cons U .nil),?_})
  .refine(fK j D.2.1).e λf0 f1 f2 f3 f4 f5=>?_;exact(T.unpinned).turned (λb o c e=>(õ _ _ (Ne.symm c)).trans e) f0 f1 f3 f4 f5
  .exact(õ _ _ (Ne.symm O)).trans pL.1
  .rw[List.take_succ,q];exact(KXL.ext B dk).append (.cons M .nil)
def Y5(I:↑1)(b:Wd X.g α S H)(h:KX l X.K α H d v)(h':KX l X.K α H d' v):d=d':=by
 cases l with
 |true=>
  refine h.i λes a vs k y u _ j=>?_;subst k;subst y;refine h'.i λq w o A e c _ m=>?_;subst A;cases e;rw[u]at c;cases c;rw[DenL.inj I b j m]
 |false=>exact Den.inj I b h h'
def Dp(I:↑1)(h:H a=some (.lst vs)): ∃j,Vals vs j/\LstAt s.heap a j:=by refine(I.list (.of h:SqL X.K H a vs)).c λj r k z=>?_;obtain ⟨o,n,m,c,hd,b⟩:=k;exact⟨j,r,o,n,m,c,b⟩
theorem Xu(I:↑1)(M:Wd X.g α S H)(hu:A.units+64<cLine){k:Bool}(kd:Sd l b d)(kf:Sd l b f)(h1:KX l X.K α H d x)(h2:KX l X.K α H f y)(rx:RelV x u)(P:RelV y v)
  (h:MF S zO d f=some k) (prog) (w) (E) (Q) (hq:Q k s):wpAny ↑6 A (keyLt' (Gh l b) u v) Q E s:=by
 cases l with
 |false=>exact (by
   cases kd with
   |t es r=>
    cases kf with
    |t ab r'=>
     refine(FE I h1 rx).i λa1 W o V D B J _=>?_;subst V;refine(FE I h2 P).i λa2 ae j ac C q L _=>?_;subst ac;have h':=h
     refine Srt.wp_keyLtT J L (zDS (Fi (λd f x y u v k a b c m e=>IV I M 39 A d f x y u v k #[0] a b c m e)
      (λd f x y u v k a b c m e=>VD I M 39 A d f x y u v k #[0] a b c m e) D C B q h')) hq
   |e=>
    cases kf;refine(FE I h1 rx).i λa1 W o am D B J p1=>?_;subst am;refine(FE I h2 P).i λa2 ae j ap C q L p2=>?_;subst ap;cases D.isnil;cases C.isnil;cases B;cases q;have hk:k=false:=by have h':_=some k:=h;cases h';rfl
    subst hk;show wpAny _ A (keyLt' oneType' _ _) Q E s;obtain⟨⟨ah,dd,ag,sl⟩,Y,hc,n,hd⟩:=id p1;obtain⟨⟨af,aa,O,Z⟩,U,T,n2,N⟩:=id p2;subst hc hd T N;refine wB (wpAny_cRoomFor #[0] ?_);refine wB (wpAny_callSpecialIfBound?_slot {_,Y,rfl} PySem.F.slot_tuple_lt (ģ PySem.F.slot_tuple_lt {_,Y,rfl} PySem.F.entry_tuple_lt (PySem.F.args_tuple_lt_2 _ _) (OE a1 a2 _ _ n n2 dd aa sl Z false) {Y,U,.nn,?_}));exact Ċ hq)
 |true=>
  refine h1.i λes a vs be bi g1 _ D=>?_;subst be;subst bi;refine h2.i λab a' aj bn bv g2 _ C=>?_;subst bn;subst bv;subst rx;subst P;refine(Dp I g1).a λai B J=>?_;refine(Dp I g2).a λj q L=>?_;have G:=by show A.units+1+39<cLine;lia
  exact Kn #[0] J L (Fi (λd f x y u v k a b c m e=>IV I M 39 A.in1 d f x y u v k G a b c m e) (λd f x y u v k a b c m e=>VD I M 39 A.in1 d f x y u v k G a b c m e) D C B q h) hq
def Dq(l:Bool)(K:O0)(α:B9)(H:Hp)(kds:Q0)(u:ō):MV:=
 open Classical in if h: ∃d v,d∈kds/\KX l K α H d v/\RelV v u then Classical.choose h else kds.headD .non
def zBJ(l:Bool)(K:O0)(α:B9)(H:Hp)(S:Sto)(kds:Q0)(p q:Keyed):Bool:=(MF S zO (Dq l K α H kds p.1) (Dq l K α H kds q.1)).getD false
def bX{K:O0}(a:kds≠[])(u):Dq l K α H kds u∈kds:=by
 unfold Dq;split
 .rename_i h;refine(ā h).a λv b _=>?_;exact b
 .match kds,a with
  |x::l,_=>exact mF0
def JL{K:O0}(h: ∃d v,d∈kds/\KX l K α H d v/\RelV v u): ∃v,KX l K α H (Dq l K α H kds u) v/\RelV v u:=by unfold Dq;rw[dif_pos h];refine(ā h).c λv _ b a=>?_;exact Z3 v b a
def Gi(I:↑1)(B:Wd X.g α S H)(w:KXL l X.K α H kds kvs)(A:Vals kvs ks){i:Nat}(o:ks[i]? =some u)(m:kds[i]? =some a):
  Dq l X.K α H kds u=a:=by
 refine(w.at m).a λv q j=>?_;refine(A.get q).a λD b r=>?_;rw[o]at b;cases b;refine(JL {a,v,ò m,j,r}).a λC c y=>?_;rw[y.inj r]at c;exact Y5 I B c j
theorem zEI(I:↑1)(wd:Wd X.g α S H)(hu:A.units+64<cLine)(hne:kds≠[])(hkind: ∀d,d∈kds->Sd l b d)(ho:OrdD S kds):
  Srt.Cmp ↑5 A E' s (Gh l b) (λp=> ∃d v,d∈kds/\KX l X.K α H d v/\RelV v p.1) (zBJ l X.K α H S kds) where
 go x y hx hy st hk Q hq:=by
  refine(JL hx).a λv1 d1 r1=>?_;refine(JL hy).a λv2 d2 r2=>?_;obtain⟨t,ht⟩:=ho.any _ (bX hne x.1) _ (bX hne y.1);have e:zBJ l X.K α H S kds x y=t:=by unfold zBJ;rw[ht];rfl
  rw[e]at hq;exact Srt.wp_lt hk (λE Q hq=>Xu I wd hu (hkind _ (bX hne x.1)) (hkind _ (bX hne y.1)) d1 d2 r1 r2 ht X.prog X.w E Q hq) hq
 tr x y z h1 h2:=by unfold zBJ at h1 h2 ⊢;have mx:=bX (l:=l) (K:=X.K) (α:=α) (H:=H) hne x.1;have my:=bX (l:=l) (K:=X.K) (α:=α) (H:=H) hne y.1;have mz:=bX (l:=l) (K:=X.K) (α:=α) (H:=H) hne z.1;obtain⟨t1,e1⟩:=ho.any _ my _ mx;obtain⟨t2,e2⟩:=ho.any _ mz _ my;rw[e1]at h1;rw[e2]at h2;subst h1 h2;rw[ho.tr _ mx _ my _ mz e1 e2];rfl
 as x y h:=by unfold zBJ at h ⊢;have mx:=bX (l:=l) (K:=X.K) (α:=α) (H:=H) hne x.1;have my:=bX (l:=l) (K:=X.K) (α:=α) (H:=H) hne y.1;obtain⟨t1,e1⟩:=ho.any _ mx _ my;rw[e1]at h;subst h;rw[ho.as _ mx _ my e1];rfl
theorem Px(F:FnOk X.prog X.w X.K X.mg X.base rE k fa fd ps (KR X.g 1 Fd))(hr:Room (k+2) X.A)(W:Binds X.K fd ps [])(I:↑1)(wd:Wd X.g α S H)(hl:SqL X.K H la xs)(dl:DenL X.K α H ds xs)
  (hlen:↑11<64) (hkl:kds.length=↑11) (hk: ∀(m:Nat) d kd,ds[m]? =some d->kds[m]? =some kd->zC 1 Fd [.val d] S=.ok (Ko l kd) S) (hpu: ∀d,d∈kds->OO d=true) (hkind: ∀d,d∈kds->Sd l b d) (hord:OrdD S kds) 
  (hQ: ∀(B:Db) H'  p  ys ,B.Perm (List.range ↑11)->B.Pairwise (λi j=> ∀a c,kds[i]? =some a->kds[j]? =some c->MF S zO c a=some false)->Ext α H α H'->Wd X.g α S H'->H' p=none->H p=none->
   DenL X.K α H' (B.filterMap (ds[·]?)) ys->Q (.ref p) (yP H' p (.lst ys))):wpAny ↑5 X.A (call (.builtin "sorted") [.ref la] [("key",.ref fa)]) (EP X pins σ Q) X.xe s:=by
 refine(I.list hl).c λq rv ac _=>?_;obtain ⟨o,n0,e0,ak,_,ar⟩:=ac;have Y:q.length=ds.length:=by rw[<-rv.length,dl.length]
 have aw:=ý;refine call_function_entry_kw kind_sorted plain_sorted entry_sorted ((by unfold argsOk;kernel_rfl)) ?_;unfold Builtin.«sorted»;refine wB (wP ?_);refine wB (collect_list (⟨o,e0,ak,n0,ar⟩) ?_ #[0]);refine wB (wpAny_newList ?_);generalize ab:(s.heap.push (seqObj "list" #[] 0)).update s.heap.objs.size _=y;have ay:y.objs.size=↑0+1:=by rw[<-ab,Heap.size_update,size_push']
 have k1: ∀b u,s.heap.get? b=some u->y.get? b=some u:=λb u e=>by rw[<-ab,õ _ _ (ø (â e))];exact hP0 _ e
 have af:(y.push _).get? y.objs.size=some (seqObj "list" q.toArray 0):=á _ rfl;show wpAny _ _ _ _ _ {s with heap:=y.push (seqObj "list" q.toArray 0)};dsimp only;generalize hL:y.objs.size=L at *;have sL:↑0<=L:=by lia
 refine wB (ð (wpAny_call_entry_kw slot_list_sort (Z3 _ af rfl) entry_list_sort (Srt.sort_keyedS af #[0] λe1 ae=>?_) ((by unfold argsOk;kernel_rfl))));dsimp only at ae ⊢;generalize Z:y.push _=M at *;have a0:M.objs.size=L+1:=by rw[<-Z,size_push',hL]
 generalize aj:M.objs.size+1=KS;have sK:↑0<=KS:=by lia
 have aa:L≠KS:=by lia
 have fL: ∀H',H' L=none->rZ X pins H' L:=λH' hn=>I.fpOk sL hn;have fK: ∀H',H' KS=none->rZ X pins H' KS:=λH' hn=>I.fpOk sK hn;have k3: ∀b u,s.heap.get? b=some u->(((M.update L (Obj.mapSeq λ_=>#[])).push (seqObj "tuple" q.toArray 0)).push (seqObj "list" #[] 0)).get? b=some u:=λb u e=>by refine hP0 _ (hP0 _ ?_);rw[õ _ _ (ø (ä (â e) sL)), <-Z];exact hP0 _ (k1 b u e)
 have base:LpX l X pins σ α S H L KS e1 kds 0 {s with heap:=((M.update L (Obj.mapSeq λ_=>#[])).push (seqObj "tuple" q.toArray 0)).push (seqObj "list" #[] 0)}:=by
  refine{H,[],0,[],(I.kept (t':=s.toks) k3),Ext.refl α H,wd,hP0 _ (hP0 _ ae),?_,I.hok.fresh sL,I.hok.fresh sK,.nil,by rw[List.take_zero];exact .nil};rw[<-aj];have e:M.objs.size+1=((M.update L (Obj.mapSeq λ_=>#[])).push (seqObj "tuple" q.toArray 0)).objs.size:=by rw[size_push',Heap.size_update]
  rw[e];exact á _ rfl
 refine þ (wpAny_forIn_list (α:=ō) (β:=PUnit) _ (λrest _ s'=> ∃m,rest=q.drop m/\LpX l X pins σ α S H L KS e1 kds m s') (λ_ s'=>LpX l X pins σ α S H L KS e1 kds q.length s') ?_ ?_ q PUnit.unit (Z3 0 rfl base)) (λ_ P D av=>?_) λ_ _ e=>e
 .rintro x rest _ s' ⟨m,e,D⟩;have hx:q[m]? =some x:=by have:=congrArg (·[0]?) e;simp only[getElem?_cons_zero,List.getElem?_drop,Nat.add_zero]at this;exact this.symm
  refine Pw F hr W aa fL fK dl rv hlen hkl hk hkind hx D λaz ao=>{m+1,?_,ao}
  have:=congrArg List.tail e;rw[List.tail_cons,List.tail_drop]at this;exact this
 .rintro _ s' ⟨m,e,D⟩;have hm:q.length<=m:=List.drop_eq_nil_iff.mp e.symm;refine D.go.j λH' N n G V=>V.s λa1 a2 a3 a4 a5 a6 a7 a8 a9=>?_;exact{H',N,n,G,a1,a2,a3,a4,a5,a6,a7,a8,by rw[ĥ #[0]]at a9 ⊢; exact a9}
 .refine D.go.j λH' N n G b0=>b0.s λT xt E gL gK nL nK J O=>?_;rw[ĥ #[0]]at O;have C:N.length=ds.length:=by rw[<-J.length,O.length,hkl]
  refine{N,n,Gh l b,(λp=> ∃d v,d∈kds/\KX l X.K α H' d v/\RelV v p.1),zBJ l X.K α H' S kds,gL,gK,by lia,λax=>?_,λout op os=>?_}
  .have ne:kds≠[]:=λz=>by rw[z]at hkl;simp at hkl;lia
   refine{(by
     cases l with
     |false=>exact V7 T ne hkind O.den J
     |true=>
      have ne:N≠[]:=λz=>by have y:=J.length;have M:=O.length;rw[z]at y;exact ne (ń.mp (by rw[<-M,y];rfl))
      refine Pu ne λu hu=>?_;obtain⟨i,hi⟩:=getElem?_of_mem hu;have hl:i<G.length:=by rw[J.length];exact(gS.mp hi).1
      refine(J.get (gE hl)).a λu' y r=>?_;rw[hi]at y;cases y;obtain⟨d,M,es,a,vs,rfl,e,h3,_,_⟩:=O.get (gE hl);rw[e]at r;cases r;refine(Dp T h3).a λq _ t=>?_;exact ZX a q rfl t),zEI T E (by have:=hr.un;show X.A.units+1+1+64<cLine;lia) ne hkind hord,λp hp=>?_};obtain⟨i,hi⟩:=getElem?_of_mem ((of_mem_zip hp).1);have U:i<G.length:=by rw[J.length];exact(gS.mp hi).1
   refine(J.get (gE U)).a λu' ag r=>?_;rw[hi]at ag;cases ag;refine(O.get (gE U)).a λd au ai=>?_;exact Z2 d _ (ò au) ai r
  .refine(SX op.symm (List.range ↑11) (Jk C Y)).a λB ip ie=>?_;have ib: ∀i,i∈B->i<ds.length:=λi hi=>ē.mp (ip.mem_iff.mp hi);have eo:out.map (·.2)=B.filterMap (q[·]?):=by rw[<-ie,Ă];exact OP λi hi=>by rw[Y];exact ib i hi
   have po:B.Pairwise (λi j=> ∀a c,kds[i]? =some a->kds[j]? =some c->MF S zO c a=some false):=by rw[<-ie,pairwise_map]at os;refine List.Pairwise.imp_of_mem (λ{i j} hi hj h a c ha hc=>?_) os;have ui:N[i]? =some (N[i]'(by rw[C];exact ib i hi)):=gE _;have uj:N[j]? =some (N[j]'(by rw[C];exact ib j hj)):=gE _;have h':(MF S zO _ _).getD false=false:=h;rw[ui,uj]at h';simp only[Option.getD_some]at h';rw[Gi T E O J ui ha,Gi T E O J uj hc]at h';obtain⟨t,ht⟩:=hord.any c (ò hc) a (ò ha);rw[ht]at h';have h':t=false:=h';rw[ht,h']
   refine{_,rfl,wP {_,rfl,.ref L,yP H' L _,?_,rfl,hQ B H' L _ ip po xt E nL (I.hok.fresh sL) ((dl.ext xt).pick B)}};have I5:Inv X pins σ H' {P with heap:=P.heap.update KS (Obj.mapSeq λ_=>#[])}:=by refine(fK H' nK).e λf0 f1 f2 f3 f4 f5=>?_;exact T.turned (t':=P.toks) (λb o W e=>(õ _ _ (Ne.symm W)).trans e) f0 f1 f3 f4 f5
   have aq:(P.heap.update KS (Obj.mapSeq λ_=>#[])).get? L=some (seqObj "list" #[] e1):=(õ _ _ (Ne.symm aa)).trans gL;refine(fL H' nL).e λf0 f1 f2 f3 f4 f5=>?_
   have I6:Inv X pins σ H' {P with heap:=(P.heap.update KS (Obj.mapSeq λ_=>#[])).update L (Obj.mapSeq λ_=>(out.map (·.2)).toArray)}:=
    I5.turned (t':=P.toks) (λb o W e=>(õ _ _ (Ne.symm W)).trans e) f0 f1 f3 f4 f5
   obtain⟨n',ah⟩: ∃n',((P.heap.update KS (Obj.mapSeq λ_=>#[])).update L (Obj.mapSeq λ_=>(out.map (·.2)).toArray)).get? L=some _:={_,by have:=get?_update_seq aq (λ_=>(out.map (·.2)).toArray);rw[eo]at this ⊢;exact this}
   refine SY I6 (fL H' nL) (ó I.sz sL) ah (Vals.pick rv B) ?_
   .have:=ı (xs[·]?) B;have h3:=ip.length_eq;rw[ú]at h3
    lia
end
structure SrtOkX(l:Bool)(Fd:List MV->Sto->R Er)(S:Sto)(ds kds:Q0)(b:Bool):Prop where
 len:↑11<64
 kl:kds.length=↑11
 call: ∀(m:Nat) d kd,ds[m]? =some d->kds[m]? =some kd->zC 1 Fd [.val d] S=.ok (Ko l kd) S
 pu: ∀d,d∈kds->OO d=true
 kind: ∀d,d∈kds->Sd l b d
 ord:OrdD S kds
open Classical in
def PC(l:Bool)(c:List MV->Sto->R Er)(rs:List Er)(S:Sto):R Er:=match rs with
 |[p]=>match xQ S p with
  |some ds=>if h: ∃r, ∃kds b,SrtOkX l c S ds kds b/\ ∀a,Ga S ds kds a->a=r then .ok (.new (Classical.choose h)) S else .no
  |none=>.no
 |_=>.no
def Xv(e:xQ S p=some ds)(ok:SrtOkX l Fd S ds kds b)(u: ∀m,Ga S ds kds m->m=r)(ex:Ga S ds kds r)(o: ∀j q,SrtOkX l Fd S ds j q->j=kds):
  PC l Fd [p] S=.ok (.new r) S:=by
 unfold PC;dsimp only;rw[e];dsimp only;have h: ∃r, ∃kds b,SrtOkX l Fd S ds kds b/\ ∀m,Ga S ds kds m->m=r:=(YX r kds b ok u)
 rw[dif_pos h];refine(ā h).d λj q a c=>?_;rw[o j q a]at c;rw[<-c r ex]
section
variable{pos:Pos}
def Dr(l){p P kq:Pos}(F:FnOk X.prog X.w X.K X.mg X.base rE k fa fd ps (KR X.g 1 Fd))(hr:Room (k+2) X.A)(Y:Gl X "sorted")(hm:X.mg "sorted"=none)
  (hgk:Gl X x) (hmk:X.mg x=some (.ref fa)) (hb:Binds X.K fd ps []) (L:KQ X W [a] af) (hd:(x==("__debug__"))=false:=by decide)
  (he:backTo pos (starEach [a] X.env)=(false,eval a X.env)::backTo pos (starEach [] X.env):=by rfl) (hpl:(backTo pos (starEach [a] X.env)).any (·.1)=false:=by rfl):
  zS X W (.Call (.Name "sorted" p) [a] [{some "key",.Name x P,kq}] pos) (λρ S=>(af ρ S).bind λrs D=>PC l Fd rs D):=by
 refine L.a λt L kk=>?_
 refine{λσ H Q=>t σ H λvs y=> ∃α S C xs B kds b,vs=[.ref C]/\Wd X.g α S y/\SqL X.K y C xs/\DenL X.K α y B xs/\SrtOkX l Fd S B kds b/\
   ∀(o:Db)(H':Hp)(p:Addr)(ys:List V),o.Perm (List.range B.length)->o.Pairwise (λi j=> ∀a c,kds[i]? =some a->kds[j]? =some c->MF S zO c a=some false)->Ext α y α H'->Wd X.g α S H'->H' p=none->y p=none->
   DenL X.K α H' (o.filterMap (B[·]?)) ys->Q (.ref p) (yP H' p (.lst ys)),?_,λα ρ S σ H Q E sl q=>kk α ρ S σ H _ E sl (q.bind λvs rs D G y e1 x1 N U m=>?_)}
 .rw[22];refine Ņ (pT I Y hm Jl ?_);refine callWith_kw (xV (L pos pins s σ H _ I h) λus s1 ⟨vs,y,I1,r1,m⟩=>?_) he hpl;refine m.v λα S C xs B kds b a0=>a0.e λac E hl J ok hq=>?_;subst ac;obtain⟨u,rfl,O⟩:=r1.one;subst O;refine kws_cons (MA I1 hgk hmk (kws_nil ?_) hd);exact Px F hr hb I1 E hl J ok.len ok.kl ok.call ok.pu ok.kind ok.ord hq
 .replace m:=m.shift x1
  unfold PC at m;split at m
  .rename_i p0;split at m
   .rename_i B el;split at m
    .rename_i h;refine(OA U).a λv am dv=>?_;subst am;refine(oS rfl N el dv).b λC xs ap sq J=>?_;subst ap;refine(ā h).d λkds b ok u=>?_;refine Yg G D C xs B kds b {rfl,N,sq,J,ok,(λo H' pp ys i1 i2 T i4 Z i6 M=>?_)};rw[(u _ (Z0 o i1 i2 rfl))]at M;exact(m.shift T).newl i4 Z M
    .exact m.elim
   .exact m.elim
  .exact m.elim
def Ab(l){p q c:Pos}(G:yF X.prog X.w X.K X.mg X.base x k 1 ps Fd)(s:Room (k+2) X.A)(o:Gl X "sorted")(u:X.mg "sorted"=none)
  (hgk:Gl X x) (ha:KQ X W [a] af) (hd:(x==("__debug__"))=false:=by decide)
  (he:backTo pos (starEach [a] X.env)=(false,eval a X.env)::backTo pos (starEach [] X.env):=by rfl) (hpl:(backTo pos (starEach [a] X.env)).any (·.1)=false:=by rfl):
  zS X W (.Call (.Name "sorted" p) [a] [{some "key",.Name x q,c}] pos) (λρ S=>(af ρ S).bind λrs j=>PC l Fd rs j):=
 let ⟨_,_,F,m,_,b⟩:=G.ex;Dr l F s o u hgk m b ha hd he hpl
end
def KAt(d:Addr)(us:A0)(a:Nat)(h:Heap):Prop:= ∃o es,h.get? d=some o/\o.ExactDict/\o.data=.dict es a/\es.toList.map (·.key)=us
def KAt.at(x:KAt d us ep h)(m: ∀o,h.get? d=some o->h'.get? d=some o):KAt d us ep h':=let ⟨o,es,a,r⟩:=x;(ZX o es (m o a) r)
theorem KAt.size(x:KAt d us ep h): ∃o es,h.get? d=some o/\o.ExactDict/\o.data=.dict es ep/\es.size=us.length/\ ∀i (hi:i<es.size),us[i]? =some es[i].key:=by refine x.l λo es b a hd e=>?_;refine Ys o es b a hd (by rw[<-e,lM,î]) (λi hi=>?_);rw[<-e,ë,ñ,ě hi];rfl
section
variable{E:VP}{s:Ō}
def TU(hs:(d==sysModules)=false)(m:KAt d us ep s.heap)
  (hQ:Q (.ref ↑0) {s with heap:=s.heap.push {cls:=.type "dict_keyiterator",data:=.fields #[.ref d,.int 0 0,.int us.length 0,.int ep 0]}}):wpAny (model P w) A (pyIter (.ref d)) Q E s:=by
 refine m.size.n λo es c q a b _=>?_;have j:s.TypeIs (.ref d) "dict":={o,c,q.1}
 refine wpAny_pyIter_slot j PySem.F.slot_dict_iter (é PySem.F.slot_dict_iter j PySem.F.entry_dict_iter ?_ (PySem.F.args_dict_iter_1 _));refine wB ?_;refine wB (Ĝ j ?_);refine wP ?_;show wpAny _ _ (Builtin.Dict.showsAll d >>= _) _ _ s;unfold Builtin.Dict.showsAll;rw[iN (by rw[hs];exact xF0)];refine wB (wP ?_);refine wB (Ħ c a ?_);refine wB (ň c a ?_);refine wB (Ā (wP {_,rfl,_,_,(Z3 _ (á _ rfl) rfl),PySem.F.slot_dict_keyiterator_next.lookup,?_}));simpa [rawInt,b]using hQ
theorem Ac(a:s.heap.IsKeyIter it d i us.length ep)(D:KAt d us ep s.heap)(B:us[i]? =some x)
  (hQ: ∀h',h'.IsKeyIter it d (i+1) us.length ep->Heap.SameBut it s.heap h'->Q (some x) {s with heap:=h'}):wpAny (model P w) A (pyNext (.ref it)) Q E s:=by
 refine(id a).c λo v C hd=>?_;refine D.size.n λH es q G u j m=>?_;have c:i<es.size:=by rw[j];exact((gS.mp B).1)
 refine wB (ċ (í a.typeIs PySem.F.slot_dict_keyiterator_next (é PySem.F.slot_dict_keyiterator_next a.typeIs PySem.F.entry_dict_keyiterator_next ?_ (PySem.F.args_dict_keyiterator_next_1 _))));refine wB (wP (wB (wB ?_)))
 first |refine wB (İ a.typeIs (wP ?_))|refine wB _
 refine wB (wpAny_fieldsOf v hd ?_);have y:Builtin.Dict_items.ownsTuple "dict_keyiterator"=false:=by decide
 show wpAny _ _ (if _=true then _ else _) _ _ s;refine wB (wP (wB (Ħ q u ?_)));rw[iN (by rw[j];simp)];refine wB (wP (wB (ň q u ?_)));rw[iN (by simp)];refine wP ?_;simp only[show¬(_<0)from by lia,ą,ě c];refine wB ?_
 first |refine wB (İ a.typeIs (wP ?_))|refine wB _
 refine wB (wpAny_isOneOf_keyiter a.typeIs ?_);show wpAny _ _ (setField _ 1 _ >>= _) _ _ s;refine wB (wpAny_setField v hd (by simp) ?_)
 have b:(s.heap.update it (Obj.mapFields (·.setIfInBounds 1 (rawInt ((i:Int)+1))))).IsKeyIter it d (i+1) us.length ep:=
  (Z0 _ (Heap.get?_update_self _ v (Obj.isFreed_of_fields (Obj.data_mapFields hd _))) ((Obj.cls_mapFields ..).trans C) (by rw[Obj.data_mapFields hd];simp[rawInt]))
 refine wB (ð ?_);refine wB (wpAny_isOneOf_keyiter b.typeIs ?_);rw[20];exact wP (wP (Z3 _ rfl (wP ((by have:=m i c;rw[B]at this;exact(è this).symm)▸hQ _ b (Ę ..)))))
def Ad(y:A.handled=none)(a:s.heap.IsKeyIter it d i us.length ep)(B:KAt d us ep s.heap)(v:us.length<=i)
  (hQ: ∀h',Heap.ExtBut it s.heap h'->Q none {s with heap:=h'}):wpAny (model P w) A (pyNext (.ref it)) Q E s:=by
 refine(id a).c λo u G hd=>?_;refine B.size.n λD es c C j b m=>?_;refine wB (ċ (í a.typeIs PySem.F.slot_dict_keyiterator_next (é PySem.F.slot_dict_keyiterator_next a.typeIs PySem.F.entry_dict_keyiterator_next ?_ (PySem.F.args_dict_keyiterator_next_1 _))));refine wB (wP (wB (wB ?_)))
 first |refine wB (İ a.typeIs (wP ?_))|refine wB _
 refine wB (wpAny_fieldsOf u hd ?_);have q:Builtin.Dict_items.ownsTuple "dict_keyiterator"=false:=by decide
 show wpAny _ _ (if _=true then _ else _) _ _ s;refine wB (wP (wB (Ħ c j ?_)));rw[iN (by rw[b];simp)];refine wB (wP (wB (ň c j ?_)));rw[iN (by simp)];refine wP ?_;simp only[iF,ą,Array.getElem?_eq_none (by rw[b];exact v)];refine wB ?_
 first |refine wB (İ a.typeIs (wP ?_))|refine wB _
 show wpAny _ _ (setField _ 0 .none >>= _) _ _ s;refine wB (wpAny_setField u hd (by simp) ?_);refine wB ?_;refine wB (Ā ?_ (by size_fits));refine wB (wpAny_of_eq (by first |rfl|(simp only[firstArgMember];rfl)) ?_);refine Ā ?_ (by size_fits);refine wB (wpAny_handled ?_);rw[show A.in1.handled=none from y];refine wB (wP (wpAny_throw ?_));refine wB (ĩ (Z3 _ (á _ rfl) rfl) isSubtype_stop ?_);exact wP (hQ _ (((Ę ..).extBut.push _).push _))
def Kp(hh:A.handled=none)(I)(hne:d≠I)(us)(ep):Walks P w A I [I,d] [I] us.length (λi x=>us[i]? =some x) (λi h=>h.IsKeyIter I d i us.length ep/\KAt d us ep h) where
 sub:=λb hb=>by simp at hb;simp[hb]
 frame:=λ_ _ _ st hk=>{st.1.at λo e=>hk I (by simp) o e,st.2.at λo e=>hk d (by simp) o e}
 item:=λi s Q E hi st hQ=>by have hx:=gE hi;refine Ac st.1 st.2 hx λh' hit' hs'=>?_;exact hQ _ h' s.toks hx {hit',st.2.at λo e=>hs'.extBut d o hne e} λb o hb e=>hs'.extBut b o (λh=>hb (by simp[h])) e
 done:=λs Q E st hQ=>Ad hh st.1 st.2 (à _) λh' he'=>hQ h' s.toks λb o hb e=>he' b o (λh=>hb (by simp[h])) e
 self:=λ_ _ _ _ st hQ=>wpAny_pyIter_keyiter st.1 hQ
def Py(us)(ep):PySem.W.KdlSrc P w "dict" d d us.length (λi x=>us[i]? =some x) (λh=>(d==sysModules)=false/\KAt d us ep h) where
 type:=λ_ hm=>let ⟨o,_,ho,hc,_⟩:=hm.2;{o,ho,hc.1}
 there:=λ_ hm=>{let ⟨_,_,ho,_⟩:=hm.2;â ho,let ⟨_,_,ho,_⟩:=hm.2;â ho}
 keep:=λ_ _ hm hk=>{hm.1,hm.2.at λo e=>hk d (.inl rfl) o e}
 notList:=by decide
 notTuple:=by decide
 hint:=λ_ _ _ _ hm hq=>PySem.W.kdl_hint_dict (let ⟨o,_,ho,hc,_⟩:=hm.2;{o,ho,hc.1}) hq
 iter:=λ_ _ hh hm=>(Z2 _ _ (λ_ _ hq=>TU hm.1 hm.2 hq) (Kp hh _ (å (let ⟨_,_,ho,_⟩:=hm.2;â ho)) us ep) {(Z0 _ (á _ rfl) rfl rfl),hm.2.at λo e=>hP0 _ e})
end
section
def Pz{K:O0}: ∀{kvs}{xs},DenN K α H kvs xs->DenL K α H (kvs.map (·.1)) (xs.map λx=>V.ref x.2.1):=λb=>by
 induction b with
 |nil=>exact yA
 |cons hk e a d r l ih=>exact zT a (ih)
theorem Ae: ∀(xs:List (NK×Addr×ō)),Vals (xs.map λx=>V.ref x.2.1) (xs.map λx=>Value.ref x.2.1)
 |[]=>.nil
 |x::xs=>.cons rfl (Ae xs)
theorem Dt:CallR X (.type "list") (λxs H Q=> ∃d m α kvs,xs=[.ref d]/\DD X H d m/\DenN X.K α H kvs m/\X.calm=true/\ ∀p,H p=none->Q (.ref p) (yP H p (.lst (m.map λx=>V.ref x.2.1)))):=by
 intro pins s σ H xs T Q I r h;refine h.o λd m α kvs k E G L q=>?_;subst k;refine(vals1 r).a λu U P=>?_;subst U;subst P;refine(sI I E G).f λY A hs=>?_;obtain ⟨o,es,y,M,v,hd,C,_,_⟩:=Y;have F:KAt d (m.map λx=>Value.ref x.2.1) y s.heap:=(Zo o es M v hd (by refine qq C (qq Ă ?_);rfl))
 refine PySem.W.kdl_call (Py _ y) (I.ok.hd L) ⟨hs,F⟩ (by rw[lM];exact A) λh' S b D J B a=>?_
 have O:b.toList=m.map λx=>Value.ref x.2.1:=by
  refine ŉ λj=>?_;by_cases N:j<b.size
  .have c:=ě N;rw[ñ,c];exact(a.2 j _ c).symm
  .have c:(m.map λx=>Value.ref x.2.1).length<=j:=by have:=a.1;lia
   rw[ñ,Array.getElem?_eq_none #[0],Ĕ c]
 refine Z2 (.ref ↑0) _ (I.laid J (à _) (show ObjOk X.prog X.w _ h' _ (.lst _)from{by rw[lM];exact A,b.toList,D,by rw[O];exact Ae m,?_})) rfl (q _ (I.hok.fresh (à _)));exact B
def sO:List Er->Sto->R Er
 |[r],S=>match kO S r with |some (_,kvs)=>.ok (.new (kvs.map (·.1))) S|none=>.no
 |_,_=>.no
def Qa(s:X.calm=true):dH X W (λxs H Q=> ∃d j α kvs,xs=[.ref d]/\DD X H d j/\DenN X.K α H kvs j/\X.calm=true/\ ∀p,H p=none->Q (.ref p) (yP H p (.lst (j.map λx=>V.ref x.2.1)))) sO:=by
 intro rs vs α S H Q m d a;unfold sO at a;split at a
 .split at a
  .rename_i n kvs e;refine(dI d).a λv k o=>?_;subst k;refine(AB m e o).n λc xs A q y u b=>?_;subst A;exact ZB c xs (α) kvs {rfl,u,b,s,(λp w=>a.newl m w (Pz b))}
  .exact a.elim
 .exact a.elim
end
mutual
def QU:Expr->List Str
 |.Name x _=>[x]
 |.Tuple es _ _=>zEJ es
 |_=>[]
def zEJ:List Expr->List Str
 |[]=>[]
 |e::es=>QU e++zEJ es
end
section
variable{pos:Pos}
noncomputable abbrev gnN(T:D0)(N:D0)(a:Db):List Str:=[]++T++a.map λi=>(N[i]?).getD Str.empty
def Qb(a:FnScope N ps osc)
  (hi:NZ X W tg iter itf) (hg: ∀C j m fp,(gnN (QU tg) N idx).Nodup->Nj (QU tg).length (zP X sc (QU tg) idx C j m fp) W0 tg gf)
  (hc: ∀C j m fp,VB (zP X sc (QU tg) idx C j m fp) W0 ifs cf) (he: ∀C j m fp,zS (zP X sc (QU tg) idx C j m fp) W0 elt ef)
  (hcalm:X.calm=true:=by rfl) (e1:X.env.scope=osc:=by rfl) (e2:X.N=N:=by rfl) (hB:vS osc N sc idx=true:=by decide+kernel) (hN:(gnN (QU tg) N idx).Nodup:=by decide+kernel)
  (hs: ∀y,foldedSetIterable iter X.env y=pure y:=by intro _;rfl):
  zS X W ↑14 (λρ S=>(itf ρ S).bind λk q=>if k.ds.length<1000000 then(zV gf cf ef (IT (QU tg).length idx ρ) k.gs k.ds q).bind λout S2=>.ok (.new out) S2 else .no):=Fg osc N _ idx hi hcalm hg hc he e1 e2 hB hN hs
def Qc{x:Str}{b a:Pos}{i:Nat}(c:FnScope N ps osc)
  (hi:NZ X W tg iter itf) (hg: ∀C j m fp,(gnN (QU tg) N idx).Nodup->Nj (QU tg).length (zP X sc (QU tg) idx C j m fp) W0 tg gf)
  (hc: ∀C j m fp,VB (zP X sc (QU tg) idx C j m fp) W0 ifs cf) (he: ∀C j m fp,zS (zP X sc (QU tg) idx C j m fp) W0 elt ef)
  (hcalm:X.calm=true:=by rfl) (e1:X.env.scope=osc:=by rfl) (e2:X.N=N:=by rfl) (hB:vS osc N sc idx=true:=by decide+kernel) (hN:(gnN (QU tg) N idx).Nodup:=by decide+kernel)
  (hs: ∀y,foldedSetIterable iter X.env y=pure y:=by intro _;rfl)
  (hi2:X.N[i]? =some x:=by rfl) (hx:Loc X.env.scope x:=by first |exact Or.inl rfl|exact Or.inr rfl)
  (hsw:swapsWith ↑14 (some (.Name x b)) a.line X.env=pure true:=by with_unfolding_all rfl) (hf:Q6 X x:=by first |exact .inl rfl|exact .inr rfl|assumption):
  ME X W (.Assign [.Name x b] ↑14 a) (λρ S=>((itf ρ S).bind λk q=>if k.ds.length<1000000 then(zV gf cf ef (IT (QU tg).length idx ρ) k.gs k.ds q).bind λout S2=>.ok (.new out) S2 else .no).bind (NY ρ i)):=Uv i (by rw[e2];exact c.nd) osc N _ idx hi hcalm hg hc he e1 e2 hB hN hs hi2 hx hsw hf
end
section
variable{K:O0}{x:Str}{st:Stmt}
abbrev ScK(N ps:D0)(a:Scope):Prop:=N.Nodup/\N.take ps.length=ps/\(∀x∈ps,a.names.lookup x=some .local\/a.names.lookup x=some .cell)/\ ∀y∈a.names,y.2≠.free
def okL(Fb)(F:Fun K x qual st f fd)
  (h: ∀ m  A  j  s  H  E ,N.Nodup->FnScope N ps (zR st)->Room k (A.deeper (envOfC qual (zR st) ↑0 f m))->GQ (UM rE P w K mg base N qual (zR st) f m A j s H E).nox W0 (wY st) Fb)
  (h4:ScK N ps (zR st):=by decide+kernel) (a:(zR st).kind=.function:=by rfl) (b:(zR st).isCoroutine=false:=by rfl) (c:(zR st).isGenerator=false:=by rfl):
  FnOk P w K mg base rE (k+1) f fd ps (KR ⟨K,mg,P,w⟩ ps.length λds S=>zG (Fb (zE N ds) S)):=
 have o:={a,b,c,h4.1,h4.2.1,h4.2.2.1,h4.2.2.2}
 okM Fb F o λm A j s H E q=>h m A j s H E o.nd o q
def Y7:Nat->(List ō->Prop)->Prop
 |0,p=>p []
 |n+1,p=> ∀a,Y7 n λl=>p (a::l)
theorem zEK: ∀ us {p},Y7 us.length p->p us
 |[],_,h=>h
 |a::l,_,h=>zEK l (h a)
def Y8(h:Y7 n p)(us)(e:us.length=n):p us:=zEK us (e▸h)
def okA(Fb)(D:DefM K mg x st)
  (h: ∀ f  q  A  j  s  H  E ,N.Nodup->FnScope N ps (zR st)->Room k (A.deeper (envOfC x (zR st) ↑0 f q))->GQ (UM rE P w K mg base N x (zR st) f q A j s H E).nox W0 (wY st) Fb)
  (hb:Pa x st ps:=by exact λ_ _ _ _ _ _=>Y8 (by(repeat intro _);rfl))
  (h4:ScK N ps (zR st):=by decide+kernel) (a:(zR st).kind=.function:=by rfl) (b:(zR st).isCoroutine=false:=by rfl) (c:(zR st).isGenerator=false:=by rfl):
  yF P w K mg base x (k+1) ps.length ps λds S=>zG (Fb (zE N ds) S):=
 (let ⟨f,u,m,o⟩:=D.ex;{f,u,(λf _ F=>okL Fb F (h f) h4 a b c) f u o,m,o.kp,o.binds hb})
end
def zEL(P:Ŏ)(w:World)(d:Addr)(o:Obj)(xs:List (NK×Addr×ō)):It:=
 {λi H=>H d=some (.frz o (DN P w d xs))/\i<↑7,
   λi H v H'=>H'=H/\ ∃x,xs[i]? =some x/\v=.ref x.2.1,
   λi H=>H d=some (.frz o (DN P w d xs))/\↑7<=i}
def Kq{K:O0}(hc0:o.ExactDict)(hdat:o.data=.dict es ep)(hes:es.toList=xs.map (entryOfKey (yB P w))):
  Turn P w K tg (zEL P w d o xs) [it] it (λi h=>h.IsKeyIter it d i ↑7 ep) where
 mem:=by simp
 obj:=λi h st b hb=>by cases mS.mp hb;refine st.c λo e c d=>?_;exact Z3 o e (λv z=>by rw[d]at z;cases z)
 keep:=λi h h' st k=>st.at λo e=>k it (by simp) o e
 item:=by
  rw[21];subst hP hw hK;obtain⟨hd,hi⟩:=hg;obtain⟨hod,_⟩:=(I.hok d _ hd)
  have va:KAt d (xs.map λx=>Value.ref x.2.1) ep s.heap:={o,es,hod,hc0,hdat,by rw[hes,Ă];rfl}
  refine(hf it (by simp)).e λf0 f1 f2 f3 f4 f5=>?_;rw[<-lM]at st ⊢;refine Ac st va (by rw[ë,gE hi];rfl) λh' st' sb=>?_;have I1:Inv X pins σ H {s with heap:=h'}:=I.turned (λb o hb e=>(sb.2 b hb).trans e) f0 f1 f3 f4 f5;refine(id st').c λo' e c dd=>?_;exact Z3 _ rfl (Et e c dd ↑15 (Ys (.ref xs[i].2.1) H I1 rfl {rfl,_,gE hi,rfl} st' (λb hb=>(hf b hb).1)))
 done:=by
  rw[21];subst hP hw hK;obtain⟨hd,hi⟩:=hg;obtain⟨hod,_⟩:=(I.hok d _ hd)
  have va:KAt d (xs.map λx=>Value.ref x.2.1) ep s.heap:={o,es,hod,hc0,hdat,by rw[hes,Ă];rfl}
  refine(hf it (by simp)).e λf0 f1 f2 f3 f4 f5=>?_;rw[<-lM]at st;exact Ad (I.ok.hd hc) st va (by rw[lM];exact hi) λh' eb=>{rfl,I.turned (λb o hb e=>eb b o hb e) f0 f1 f3 f4 f5}
 self:=λ_ _ _ _ _ st h=>wpAny_pyIter_keyiter st h
section
variable{X:Cx}
def zEM(X:Cx)(R:It->Hp->Prop)(x:V)(H:Hp):Prop:= ∃d xs α a,x=.ref d/\DenN X.K α H a xs/\
 ((DD X H d xs/\ ∀o,R (zEL X.prog X.w d o xs) (yP H d (.frz o (DN X.prog X.w d xs))))\/ ∃o,H d=some (.frz o (DN X.prog X.w d xs))/\R (zEL X.prog X.w d o xs) H)
def Xw(j:PE X e te):PI X tg e (λσ H R=>te σ H λx D=>zEM X R x D):=by
 intro pins s σ H R I h;refine xV (j pins s σ H _ I h) λv u ⟨x,D,I1,W,L⟩=>?_;refine L.j λd xs α N V=>V.f λac K q=>?_;subst ac;subst W
 have J: ∀(c:Obj)(es:Array DictEntry)(m:Nat),u.heap.get? d=some c->c.ExactDict->c.data=.dict es m->es.toList=xs.map (entryOfKey (yB X.prog X.w))->(d==sysModules)=false->
   (∀h',(∀b o,u.heap.get? b=some o->h'.get? b=some o)-> ∃C,(∀b,b≠d->C b=D b)/\Inv X pins σ C {u with heap:=h'}/\R (zEL X.prog X.w d c xs) C)->wpAny ↑5 X.A (pyIter (.ref d)) (PIE X pins σ tg R) X.xe u:=by
  intro c es m a y hd j hs k;have P:KAt d (xs.map λx=>Value.ref x.2.1) m u.heap:=(Zo c es a y hd (by refine qq j (qq Ă ?_);rfl))
  refine TU hs P ?_;rw[lM];obtain⟨C,G,S,q⟩:=k _ λb o e=>hP0 _ e;refine Yq _ _ _ _ _ rfl S (Kq y hd j) (Z0 _ (á _ rfl) rfl rfl) (λb F=>?_) q;cases mS.mp F;have U:=ø (â a);refine(I1.fpOk (à _) (I1.hok.fresh (à u.heap.objs.size))).e λ_ Q M Y T Z=>?_;exact{by rw[G _ U];exact I1.hok.fresh (à _),Q,M,Y,T,Z}
 rcases q with⟨dd,q⟩|⟨o,ho,q⟩
 .obtain⟨⟨c,es,m,a,y,hd,j,hk,O⟩,hz,hs⟩:=sI I1 dd K;exact J c es m a y hd j hs λh' E=>(Z0 _ (λb F=>zH F) ((I1.kept E).freezeD dd K (E d c a)) (q c))
 .obtain⟨a,⟨hz,hs,o',es,m,B,y,hd,j,O⟩,_⟩:=(I1.hok d _ ho)
  rw[a]at B;cases B;exact J o es m a y hd j hs λh' E=>(Z0 D (λ_ _=>rfl) (I1.kept E) q)
noncomputable def Gj(S:Sto):Er->Option (List (MV×MV))
 |.val (.loc l)=>match S[l]? with |some (.fdc kvs)=>some kvs|_=>none
 |_=>none
def WH(p:Er)(S:Sto):R Wk:=match kO S p with
 |some (l,kvs)=>.ok {kvs.map (·.1),[]} (S.set l (.fdc kvs))
 |none=>match Gj S p with
  |some kvs=>.ok {kvs.map (·.1),[]} S
  |none=>.no
theorem Af:zCY X.g (zEL X.prog X.w c ob xs) (λ α   S   H =>H c=some (.frz ob (DN X.prog X.w c xs))/\DenN X.K α H kvs xs) (kvs.map (·.1)):=by
 intro i u C B ⟨o,j⟩ y;have q:=j.length;refine{λhi=>?_,λhi=>{o,by rw[lM]at hi;lia}};rw[lM]at hi;refine{{o,by lia},?_};rintro _ _ ⟨rfl,x,v,rfl⟩;obtain⟨m,b⟩: ∃m,kvs[i]? =some m:={_,gE hi}
 refine(j.at' b).a λA a s=>?_;rw[v]at a;cases a;exact{Ext.refl _ _,y,⟨o,j⟩,m.1,by rw[ë,b];rfl,s}
def Xx(C:zS X W e f):NZ X W tg e (λρ S=>(f ρ S).bind WH):=by
 refine C.a λt C k=>?_;refine Z3 _ (Xw C) (λα ρ S σ H Rc Y sl q=>k α ρ S σ H _ Y sl (q.bind λu p K m J e1 U A L s=>?_))
 replace s:=s.shift U
 unfold WH at s;split at s
 .rename_i l b T;refine(AB A T L.1).n λc xs V j I E B=>?_;subst V;refine ZB c xs m b {rfl,B,.inl {E,λob=>?_}};have N:=A.writex j E.nf (o:=.frz ob (DN X.prog X.w c xs));have y:=B.ex0 N.toEx0;have P:=A.write j E.nf (ob:=.fdc b) (ZX ob xs zM y);exact(s.shift N).here P {_,Af,⟨zM,y⟩,λm K J D Z Q ⟨G,F⟩ x w _=>{x.frz _ _ _ G,F.ex0 x.toEx0},kN}
 .split at s
  .rename_i b v;unfold Gj at v;split at v
   .rename_i l;split at v
    .rename_i z I;cases v;refine(bV L.1).a λa ac j=>?_;subst ac;refine(A.of j).a λob M hO=>?_;rw[I]at M;cases M;refine hO.d λoe xs O B=>?_;exact ZB a xs m b {rfl,B,.inr {oe,O,s.here A {_,Af,⟨O,B⟩,λm K J D Z Q ⟨G,F⟩ x w _=>{x.frz _ _ _ G,F.ex0 x.toEx0},kN}}}
    .cases v
   .cases v
  .exact s.elim
end
section
variable{pos:Pos}
def Qd(a:FnScope N ps osc)
  (hi:NZ (zP X0 sc0 T0 idx0 C0 s0 H0 fp0) W tg iter itf) (hg: ∀C j m fp,(gnN (QU tg) (gnN T0 N idx0) idx).Nodup->Nj (QU tg).length (zP (zP X0 sc0 T0 idx0 C0 s0 H0 fp0) sc (QU tg) idx C j m fp) W0 tg gf)
  (hc: ∀C j m fp,VB (zP (zP X0 sc0 T0 idx0 C0 s0 H0 fp0) sc (QU tg) idx C j m fp) W0 ifs cf) (he: ∀C j m fp,zS (zP (zP X0 sc0 T0 idx0 C0 s0 H0 fp0) sc (QU tg) idx C j m fp) W0 elt ef)
  (hcalm:X0.calm=true:=by rfl) (e1:X0.env.scope=osc:=by rfl) (e2:X0.N=N:=by rfl) (hB:vS (rlS sc0 osc) (gnN T0 N idx0) sc idx=true:=by decide+kernel) (hN:(gnN (QU tg) (gnN T0 N idx0) idx).Nodup:=by decide+kernel)
  (hs: ∀y,foldedSetIterable iter (zP X0 sc0 T0 idx0 C0 s0 H0 fp0).env y=pure y:=by intro _;rfl):
  zS (zP X0 sc0 T0 idx0 C0 s0 H0 fp0) W ↑14 (λρ S=>(itf ρ S).bind λk q=>if k.ds.length<1000000 then(zV gf cf ef (IT (QU tg).length idx ρ) k.gs k.ds q).bind λout S2=>.ok (.new out) S2 else .no):=by
 subst e1 e2;exact Fg _ _ _ idx hi hcalm hg hc he rfl rfl hB hN hs
end
def RMtX(P:Ŏ)(w:World)(K:O0)(mg:G0)(base:Heap)(m:Str)(k n:Nat)(c:Str)(F:↑13):Prop:= ∃C a b ps,OC K c C/\Meth K C m a/\FnOk P w K mg base (CXe P w) k a b ps (zFX ⟨K,mg,P,w⟩ n F)/\Binds K b ps []
def RMtX.noX{K:O0}(T:RMtX P w K mg base m k n c F):RMt P w K mg base m k n c F:=Exists.j T λC b o ps z0=>ZB C b o ps {z0.1,z0.2.1,z0.2.2.1.noX,z0.2.2.2}
end M
end L2
namespace L2
open PySem PySem.Spec PyProof.Rows
section
def Mvd.refl:Mvd fs e T h h:={λ_ _ _ _ _ q=>q,λ_ o _ _ q=>⟨o.slots,q⟩,λ_ o q=>⟨o,q⟩}
end
end L2
namespace L2
namespace M
open PySem PySem.Spec PyProof.Rows
noncomputable def lp(a:Nat):Nat->Nat×Nat->Nat×Nat
 |0,q=>q
 |n+1,q=>lp a n (SetTable.leap a q.1 q.2)
noncomputable def ad(t:SetTable):Nat->SetTable.Probe->SetTable.Probe
 |0,p=>p
 |n+1,p=>ad t n (t.advance p)
def Way(t:SetTable)(a:Nat->Prop)(h:Int)(j:Nat):Prop:= ∃n,(ad t n (t.probeStart h)).j=j/\ ∀m,m<n->a (ad t m (t.probeStart h)).j
abbrev En:=Nat×Int×Value
structure STI(t:SetTable)(L:List En):Prop where
 pl:t.place.toList=L.map (·.1)
 so:(L.map (·.1)).Pairwise (· <·)
 dm:t.dummies=#[]
 pw: ∃e,t.mask+1=2 ^ e
 od:t.mask % 2=1
 mx:t.mask<=8191
 wy: ∀q∈L,q.1<=t.mask/\Way t (· ∈L.map (·.1)) q.2.1 q.1
 fl:L.length * 5<t.mask * 3
section
def STI.sz(x:STI t L):t.place.size=L.length:=by rw[<-î,x.pl,lM]
theorem STI.fits(x:STI t L):t.fits L.length=true:=by have:=x.fl;simp only[SetTable.fits,SetTable.fill,x.sz,x.dm,aE,ĺ];exact{trivial,by simp;lia}
def STI.at(x:STI t L){i:Nat}(h:t.place[i]? =some j): ∃q,L[i]? =some q/\q.1=j:=by rw[<-ñ,x.pl,ë]at h;exact ć.mp h
end
section
def OrdD.sub(h:OrdD S ds)(hs: ∀d,d∈es->d∈ds):OrdD S es:=
 {λa m b j=>h.any a (hs a m) b (hs b j),λa m b j c o=>h.tr a (hs a m) b (hs b j) c (hs c o),λa m b j=>h.as a (hs a m) b (hs b j)}
end
def Up6(xs:Array Nat):Prop:=xs.toList.Pairwise (· <·)
theorem Up6.at(h:Up6 xs){j:Nat}(a:j<xs.size)(hi:i<j):xs[i]<xs[j]:=List.pairwise_iff_getElem.mp h i j (by simp;omega) a hi
def Sm6(e:Int×ō):Prop:= ∃(n:Nat)(a:Tok),n<16/\e=((n:Int),.int n a)
def Tb6(b:Bool)(es:K0)(t:SetTable):Prop:=t.led=b/\t.plain=true/\Up6 t.place/\t.dummies=#[]/\t.place.size=es.size/\es.size<=16/\(∀e∈es.toList,Sm6 e)/\(t.mask=7/\es.size<=4\/t.mask=31/\5<=es.size/\t.place.toList=es.toList.map (·.1.toNat))
def SetZ6(h:Heap)(D:Addr)(M:Za)(b:Bool):Prop:= ∃o es a t,h.get? D=some o/\o.ExactSet/\o.data=.set es a t/\(es.toList.map (·.1)).Perm M/\M.Nodup/\Tb6 b es t
def SetZ6.len(x:SetZ6 h D M b):M.length<=16:=by refine x.j λ_ es _ _ j=>j.e λ_ _ _ c _ a=>?_;rw[<-c.length_eq,lM,î];exact a.2.2.2.2.2.1
theorem Tb6.fits(h:Tb6 b es t):t.fits es.size=true:=by refine h.t λ_ _ _ a c m _ j=>?_;simp only[SetTable.fits,SetTable.fill,c,a,aE,beq_self_eq_true,true_and,decide_eq_true_eq];show es.size<=t.mask;rcases j with⟨z,_⟩|⟨z,_⟩<;>lia
end M
end L2
namespace L2
open PySem PySem.Spec PyProof.Rows
inductive Fz:Hp->Hp->Prop
 |refl (H:Hp):Fz H H
 |step {H H1:Hp} {c:Addr} {o:Obj} {u:HO}:Fz H H1->H1 c=none->Fz H (yP H1 c (.frz o u))
def Fz.keep(h:Fz H H1): ∀{b}{o},H b=some o->H1 b=some o:=by
 induction h with
 |refl=>exact id
 |step _ n ih=>exact λe=>by rw[zH (zQ (ih e) n)];exact ih e
open M
end L2
namespace L2
namespace M
open PySem PySem.Spec PyProof.Rows
section
def zGA(F:Er->Er->Sto->R Er)(f g h:AX)(ρ:Rho)(S:Sto):R Fl:=(f ρ S).bind λp c=>(g ρ c).bind λq b=>match p,q with
 |.val (.loc l),.val (.int k)=>match b[l]? with
  |some (.lst ds)=>if 0<=k then match ds[k.toNat]? with
   |some (.int a)=>(h ρ b).bind λr m=>(F (.val (.int a)) r m).bind λz j=>match z with
    |.val d=>(KU (.val (.loc l)) (.val (.int k)) d ρ j).bind λρ o=>.ok (.next ρ) o
    |_=>.no
   |_=>.no else .no
  |_=>.no
 |_,_=>.no
def Xz[∀i j,Decidable (C i j)](hp:PIp X op (λx y H Q=> ∃i j,x=.int i/\y=.int j/\C i j/\Q (.int (G i j)) H))(ho:zS X W o f)(hi:zS X W i g)(O:zS X W e h)
  (ha: ∀L J new,augStore i L J new=(do holding [new,L,J] (setItem L J new);release [new,L,J] [];pure .next):=by intros;rfl):
  ME X W (.AugAssign (.Subscript o i tpos) op e pos) (zGA (Fj C G) f g h):=by
 refine ho.a λto ho fo=>?_;refine hi.a λti hi fi=>?_;refine O.a λte O fe=>?_;refine Z3 _ (Sn ho hi (show zBW X (λo i H Q=> ∃p xs k v,o=.ref p/\i=.int k/\H p=some (.lst xs)/\0<=k/\xs[k.toNat]? =some v/\Q v H) by intro pins s σ H o i L J Q I ro ri h;obtain⟨p,xs,k,v,rfl,rfl,hp,F,E,q⟩:=h;subst ro;obtain⟨t,rfl⟩:=ri;refine(I.list (SqL.of (K:=X.K) hp)).c λae r pl hz=>?_;refine(r.get E).a λw ew aa=>?_;have hn:=ER;have hk:=(gS.mp E).1;exact wpAny_getItem_list pl.isList F #[0] (by simpa using ew) (Z2 v H I aa q)) O hp set_list ha) (λα N S σ H D wd sl q=>fo α N S σ H _ wd sl (q.expr λu p S1 U H1 e1 M w1 d1 q1=>fi U N S1 σ H1 _ w1 (sl.ext M) ((q1.shift M).expr λu2 p2 S2 P H2 e2 B w2 d2 A=>?_)))
 replace A:=A.shift B
 split at A
 .rename_i l k;refine(bV (DenX.ext B d1.1)).a λa V h=>?_;subst V;cases yM d2.1;refine(w2.of h).a λob h1 h2=>?_;rw[h1]at A
  cases ob with
  |lst ds=>
   refine h2.a λvs h3 l1=>?_;dsimp only at A;by_cases F:0<=k
   .rw[iP F]at A
    cases z:ds[k.toNat]? with
    |none=>rw[z]at A;exact A.elim
    |some y=>
     cases y with
     |int b=>
      rw[z]at A;have E:=(gS.mp z).1;rw[<-l1.length]at E;have g1:=gE E;refine(l1.get g1).a λd' z' g2=>?_;rw[z]at z';cases z';rw[iV g2]at g1;refine ZB a vs k (.int b) {rfl,rfl,h3,F,g1,fe P N S2 σ H2 _ w2 ((sl.ext M).ext B) (A.expr λu3 r S3 ab H3 e3 Z w3 d3 m=>?_)}
      replace m:=m.shift Z
      cases r with
      |new _=>exact m.elim
      |val d=>
       cases d with
       |int c=>
        unfold Fj at m;dsimp only at m;by_cases hc:C b c
        .rw[iP hc,jO]at m;cases yM d3.1;refine Zo _ _ rfl rfl hc ?_;refine(bV (DenX.ext Z (DenX.ext B d1.1))).a λa2 ea hh=>?_;cases ea;refine(w3.of hh).a λob j1 j2=>?_;unfold KU at m;dsimp only at m;rw[j1]at m
         cases ob with
         |lst es=>
          refine j2.a λus T l3=>?_;dsimp only at m
          cases Y:QR es.length k with
          |some j=>
           rw[Y]at m;have xw:=w3.writex hh (Lm T) (o:=.lst (us.set j (.int (G b c))));exact ZB a us k j {rfl,rfl,T,(by rw[l3.length];exact Y),m σ ab _ xw (w3.write hh (Lm T) (Z3 _ zM ((l3.set (xS _) j).ext xw))) ((((sl.ext M).ext B).ext Z).ext xw)}
          |none=>rw[Y]at m;exact m.elim
         |_=>exact m.elim
        .rw[iN hc]at m;exact m.elim
       |_=>exact m.elim
     |_=>rw[z]at A;exact A.elim
   .rw[iN F]at A;exact A.elim
  |_=>exact A.elim
 .exact A.elim
def Qe(a:zS X W o f)(hi:zS X W i g)(b:zS X W e h)
  (ha: ∀m j new,augStore i m j new=(do holding [new,m,j] (setItem m j new);release [new,m,j] [];pure .next):=by intros;rfl):
  ME X W (.AugAssign (.Subscript o i tpos) .BitOr e pos) (zGA Kf f g h):=Xz (zDZ λ_ _ _ _ _ _ _ q=>ior_int q) a hi b ha
end
end M
end L2
namespace Srt
open PySem PyProof.Rows
def sort_1(m:s.heap.get? a=some (seqObj "list" #[v] n0))
  (h: ∀j:Ō,j={s with heap:=((s.heap.update a (Obj.mapSeq λ_=>#[])).push (seqObj "tuple" #[v] 0)).push (seqObj "list" #[] 0)}->P (.done (.ret .none)) {j with heap:=j.heap.update a (Obj.mapSeq λ_=>#[v])}):
  wpAny ↑6 A (Builtin.«list.sort» {[.ref a],[]}) P E s:=by
 unfold Builtin.«list.sort»;dsimp only;rw[iN (by simp),iN (by simp),forIn_nil];refine wB (wP ?_);rw[show List.lookup (Str.ofString "key") ([]:List (Str×ō))=none from rfl,show List.lookup (Str.ofString "reverse") ([]:List (Str×ō))=none from rfl];refine wB (wP ?_);refine wB (listItems_at m rfl ?_);refine wB (listUpdate_at m rfl ?_);obtain⟨q,o⟩: ∃q,(s.heap.update a (Obj.mapSeq λ_=>#[])).get? a=some (seqObj "list" #[] q):={_,get?_update_seq m (λ_=>#[])}
 dsimp only;refine wB (seqEpoch_at o rfl ?_);refine wB (wpAny_newTuple ?_);refine wB (wpAny_newList ?_);refine ð ?_;rw[iN (by simp)];dsimp only;generalize b:({s with heap:=((s.heap.update a (Obj.mapSeq λ_=>#[])).push (seqObj "tuple" #[v] 0)).push (seqObj "list" #[] 0)}:Ō)=j;have u:j.heap.get? a=some (seqObj "list" #[] q):=by rw[<-b];exact hP0 _ (hP0 _ o)
 rw[iN (by simp)];refine wB (wP ?_);rw[iN (by simp)]
 have c: ∀st:SortSt,(arrOf st).map (·.2)=#[v]->wpAny ↑6 A (do
   let e <-seqEpoch a
   Builtin.List.listUpdate (.ref a) λ_=>(arrOf st).map (·.2)
   if(e !=q)=true then rule "list.sort.modified" >>= λ_=>raiseErrorWords "ValueError" "list modified during sort" >>= λ(_:Unit)=>ret .none else ret .none) P E j:=λst e=>by
  rw[e];refine wB (seqEpoch_at u rfl ?_);refine wB (listUpdate_at u rfl ?_);rw[iN (by simp)];exact wP (h j b.symm)
 rw[iP (by simp),iP (by simp)];refine wB (wP ?_);rw[StateT.run_pure];refine wB (wP ?_);rw[iN (by simp)];exact c _ (by show(#[v].zip #[v]).map (·.2)=_;simp)
end Srt
namespace L2
namespace M
open PySem PySem.Spec PyProof.Rows
section
def Ag(rs:List Er)(S:Sto):R Er:=match rs with
 |[p]=>match xQ S p with
  |some [d]=>.ok (.new [d]) S
  |_=>.no
 |_=>.no
theorem Kr:CallR X (.builtin "sorted") (λxs H Q=> ∃α S l x d,xs=[.ref l]/\Wd X.g α S H/\SqL X.K H l [x]/\DenL X.K α H [d] [x]/\ ∀p,H p=none->Q (.ref p) (yP H p (.lst [x]))):=by
 intro pins s σ H xs us Q I r h;refine h.r λα S l x d k wd hl dl hQ=>?_;subst k;refine(vals1 r).a λu V rx=>?_;subst V;subst rx;refine(I.list hl).c λw G ac _=>?_;obtain ⟨o,Z,Y,v,_,B⟩:=ac;obtain⟨u,rfl⟩: ∃u,w=[u]:=List.length_eq_one_iff.mp (by rw[<-G.length];rfl);have A:s.heap.IsList l #[u]:=⟨o,Y,v,Z,B⟩
 refine call_function_entry_kw kind_sorted plain_sorted entry_sorted (args_sorted1 _) ?_;unfold Builtin.«sorted»;refine wB (wP ?_);refine wB (collect_list A ?_ (by have:=ý;simp;omega));refine wB (wpAny_newList ?_);generalize j:(s.heap.push (seqObj "list" #[] 0)).update s.heap.objs.size (Obj.mapSeq (· ++#[u]))=h1;have P:h1.objs.size=↑0+1:=by rw[<-j,Heap.size_update,size_push']
 have W: ∀b u,s.heap.get? b=some u->h1.get? b=some u:=λb u e=>by rw[<-j,õ _ _ (ø (â e))];exact hP0 _ e
 have c:(h1.push (seqObj "list" #[u] 0)).get? h1.objs.size=some (seqObj "list" #[u] 0):=á _ rfl;show wpAny _ _ _ _ _ {s with heap:=h1.push (seqObj "list" #[u] 0)};dsimp only;generalize hL:h1.objs.size=L at *;have m:↑0<=L:=by lia
 refine wB (ð (wpAny_call_entry_kw slot_list_sort (Z3 _ c rfl) entry_list_sort (Srt.sort_1 c λC a=>?_) ((by unfold argsOk;kernel_rfl))));dsimp only at a;generalize y:h1.push (seqObj "list" #[u] 0)=h2 at *;have k3: ∀b u,s.heap.get? b=some u->C.heap.get? b=some u:=λb u e=>by rw[a];refine hP0 _ (hP0 _ ?_);refine qq (õ _ _ (ø (ä (â e) m))) (qq y.symm ?_);exact hP0 _ (W b u e)
 have I3:Inv X pins σ H C:=by have:=I.kept (t':=s.toks) k3;rw[a]at this ⊢;exact this
 obtain⟨q,T⟩: ∃q,C.heap.get? L=some (seqObj "list" #[] q):=by rw[a];exact{_,hP0 _ (hP0 _ (get?_update_seq c (λ_=>#[])))}
 have J:=I.hok.fresh m;have U:rZ X pins H L:=I.fpOk m J;refine Z3 _ rfl (wP {_,rfl,.ref L,_,?_,rfl,hQ L J});refine U.e λE D f2 M F N=>?_;exact SY (I3.turned (λb o O e=>(õ _ _ (Ne.symm O)).trans e) E D M F N) ⟨E,D,f2,M,F,N⟩ (ó I.sz m) (get?_update_seq T (λ_=>#[u])) G (by have:=ý;simp;omega)
def Ya:dH X W (λxs H Q=> ∃α S l x d,xs=[.ref l]/\Wd X.g α S H/\SqL X.K H l [x]/\DenL X.K α H [d] [x]/\ ∀p,H p=none->Q (.ref p) (yP H p (.lst [x]))) Ag:=by
 intro rs vs α S H Q c d a;unfold Ag at a;split at a
 .split at a
  .rename_i s e;refine(dI d).a λv k j=>?_;subst k;refine(oS rfl c e j).b λl o u m b=>?_;subst u;obtain⟨x,rfl⟩: ∃x,o=[x]:=List.length_eq_one_iff.mp (by rw[b.length];rfl);exact Yi (α) S l x _ {rfl,c,m,b,(λp q=>Post.newl a c q b)}
  .exact a.elim
 .exact a.elim
end
end M
end L2
namespace L2
namespace M
namespace My
open PySem PySem.Spec PyProof.Rows
set_option bootstrap.genMatcherCode true in
local macro_rules
 | `(tactic|simp? [$xs,*] $[$l:location]?)=>`(tactic|simp only[getElem?_cons_zero,getElem?_cons_succ,Vo,jO,as_int,zDJ,S8,add_int,sub_int,eq_int,S9,RH,lst1,Wa,zDK,lst6,tup2,Wb,U4,U5,U6,U7,U8,U9,Vu,Vv,List.set_cons_zero,set_cons_succ,if_true,Vy,Vx,vJ,kJ,bJ,dJ,nJ,aJ,iJ,mJ,tJ,zJ,fJ,eJ,uJ,pJ,qJ,rJ,sJ,wJ,yJ,AJ,BJ,CJ,DJ,EJ,FJ,JJ,NJ,$xs,*] $[$l:location]?)
set_option bootstrap.genMatcherCode true in
local macro_rules
 |`(#[$x])=>`(some (.loc $x))
 |`(#[$x,0])=>`(some (.int $x))
 |`(#[$x,1])=>`(.val (.loc $x))
 |`(#[$x,2])=>`(some (.lst $x))
 |`(#[$x,3])=>`(some (.tup $x))
 |`(#[$x,4])=>`(some (.str $x))
 |`(#[$x,5])=>`(.val (.int $x))
 |`(#[$x,6])=>`(.val (.tup $x))
 |`(#[$x,7])=>`(some (.dic $x))
 |`(#[$x,8])=>`(($x).map MV.str)
 |`(#[])=>`(by lia)
 |`(#[$x,$s,0])=>`(.ok (.next $x) $s)
 |`(#[$x,$s,1])=>`(.ok (.val $x) $s)
 |`(#[$x,$s,2])=>`(.ok (.new $x) $s)
abbrev PD:List Str:=["book","told","question"]
abbrev iQ:List Str:=["book","question","answer"]
abbrev KZ:List Str:=[ŏ,Ŗ,"_law_digit"]
abbrev LA:List Str:=[ŏ,Ŕ,ő]
noncomputable abbrev Yb:List Str:=["Rule","Never","Apart","Tie"]
abbrev AF:=AY
abbrev AE:=AX
section
set_option bootstrap.genMatcherCode true in
local macro_rules(kind:=char)
 |`($c:char)=>`(vJ $(Lean.quote (c.getChar.toNat-48)))
set_option bootstrap.genMatcherCode true in
local macro_rules
 |`(↑$n)=>match n.raw.isStrLit? with
  |some s=>`(kJ (MV.str [$((s.toList.map λc=>Lean.Syntax.mkNumLit (toString c.toNat)).toArray),*]))
  |none=>`(kJ (MV.int $n))
set_option bootstrap.genMatcherCode true in
local macro_rules(kind:=«term{_}»)
 |s=>do
  let mut r<-`(wJ)
  for x in s[1].getSepArgs.reverse do r<-`(yJ $(⟨x⟩) $r)
  return r
def fnJ(N:List Str)(F:AF)(ds:Q0)(S:Sto):R Er:=zG (F (zE N ds) S)
def AH:AF:=iJ (bJ (bJ {'0',kJ (.typ "str")} VI) sH) (AJ (bJ {↑1,↑0,'0'} yH)) JJ
def AI:AF:=AJ (bJ {↑0,'0',kJ (.str [])} yH)
def fS:AF:=zD AH AI
def sP:=fnJ ["value"] fS
def dS:AZ:=uJ
def jR:AE:=fJ 1 sP {'0'}
def lI:AF:=AJ (bJ {pJ (bJ '0' SR) (zU 0) dS jR 1 []} bW)
def fU:AF:=lI
def sQ:=fnJ ["values"] fU
def lK:AY:=iJ (sJ (qJ (bJ '1' sH)) (bJ (dJ MG (dJ yE '1' ↑(-1)) '2') jM)) (BJ (eJ wZ rH '1' {'2'})) JJ
def fV:AY:=lK
def fW:AF:=CJ (bJ wJ xN) 1
def fX:AF:=FJ (bJ (bJ {'0'} (PC false sQ)) vI) (zU 2) fV
def sR:AF:=AJ '1'
def sS:AF:=zD fW (zD fX sR)
def lL:=fnJ ["some","ordered","values"] sS
def bY:AF:=iJ (bJ (dJ vK (dJ yE '0' ↑0) ↑"is") jM) (AJ (dJ yE '0' ↑1)) JJ
def lN:AF:=AJ (dJ yE (dJ yE (dJ yE '1' (dJ yE '0' ↑1)) ↑1) (dJ yE '0' ↑2))
def sT:AF:=zD bY lN
def bZ:=fnJ ["side","looked_at"] sT
def AK:AF:=CJ (fJ 2 bZ {dJ yE '1' ↑0,'0'}) 2
def AM:AF:=CJ (fJ 2 bZ {dJ yE '1' ↑2,'0'}) 3
def AN:AF:=iJ (bJ (dJ vK (dJ yE '1' ↑1) ↑"same") jM) (AJ (dJ vK '2' '3')) JJ
def LB:AF:=(λ_ _=>R.no)
def LC:AF:=(λ_ _=>R.no)
def JM:AF:=zD AK (zD AM (zD AN (zD LB LC)))
def CP:=fnJ ["looked_at","test","left","right"] JM
def cA:AZ:=uJ
def kC:AE:=fJ 2 CP {'1','0'}
def eC:AF:=AJ (bJ {pJ (bJ '1' SR) (zU 0) cA kC 1 [0]} Q8)
def nQ:AF:=eC
def nR:=fnJ ["looked_at","tests"] nQ
def lO:AZ:=uJ
def cB:AE:=dJ yE (dJ yE '1' ↑1) '0'
def sU:AF:=AJ (pJ (bJ '1' SR) (zU 0) lO cB 1 [0])
def sV:AF:=sU
def lP:=fnJ ["row","columns"] sV
def EB:AF:=AJ (kJ (.bl false))
def LD:AF:=EB
def aO(ds:Q0)(S:Sto):R Er:=zG (LD (zE ["self","row"] ds) S)
def fH:AF:=AJ (kJ (.bl false))
def oW:AF:=fH
def xG(ds:Q0)(S:Sto):R Er:=zG (oW (zE ["self","row","other"] ds) S)
def AO:AF:=AJ (kJ (.bl false))
def HI:AF:=AO
def cC(ds:Q0)(S:Sto):R Er:=zG (HI (zE ["self","row","rows"] ds) S)
def lQ:AF:=AJ (aJ (dJ vK (dJ yE '1' ↑0) (dJ yE (bJ '0' (EA Yb "parts")) ↑1)) (fJ 2 nR {bJ {'1'} xN,dJ yE (bJ '0' (EA Yb "parts")) ↑2}))
def fY:AF:=lQ
def sW:=fnJ ["self","row"] fY
def aP:AF:=(λ_ _=>R.no)
def lR:AF:=aP
def lU(ds:Q0)(S:Sto):R Er:=zG (lR (zE ["self","row","other"] ds) S)
def wQ:AY:=iJ (rJ (bJ (dJ vK (dJ yE '4' ↑0) (dJ yE (bJ '0' (EA Yb "parts")) ↑3)) jM) (bJ (dJ vK (fJ 2 lP {'4',dJ yE (bJ '0' (EA Yb "parts")) ↑4}) '3') jM)) (AJ (kJ (.bl false))) JJ
def gH:AY:=wQ
def nS:AF:=iJ (bJ (dJ MG (dJ yE '1' ↑0) (dJ yE (bJ '0' (EA Yb "parts")) ↑1)) jM) (AJ (kJ (.bl false))) JJ
def pV:AF:=CJ (fJ 2 lP {'1',dJ yE (bJ '0' (EA Yb "parts")) ↑2}) 3
def nT:AF:=FJ (bJ '2' vI) (zU 4) gH
def EC:AF:=AJ (kJ (.bl true))
def aQ:AF:=zD nS (zD pV (zD nT EC))
def AQ:=fnJ ["self","row","rows","asked","other"] aQ
def oX:AF:=iJ (bJ (dJ vK (dJ yE '0' ↑0) ↑"never") jM) (AJ (bJ '0' (Jq "Never" "parts"))) JJ
def AR:AF:=iJ (bJ (dJ vK (dJ yE '0' ↑0) ↑"apart") jM) (AJ (bJ '0' (Jq "Apart" "parts"))) JJ
def LE:AF:=AJ (bJ '0' (Jq "Tie" "parts"))
def TV:AF:=zD oX (zD AR LE)
def JN:=fnJ ["parts"] TV
def lV:AZ:=uJ
def cE:AE:=fJ 1 JN {'0'}
def sX:AF:=AJ (pJ (bJ (dJ yE '0' ↑1) SR) (zU 0) lV cE 1 [])
def sY:AF:=sX
def lW:=fnJ ["book"] sY
def sZ:AF:=AJ (bJ {bJ {dJ yE '0' ↑2} dQ} HD)
def tD:AF:=sZ
def tE:=fnJ ["book"] tD
def lX:AZ:=uJ
def cF:AE:=bJ {'1','0'} yH
def lY:AY:=BJ (eJ wZ Xb '1' {pJ (bJ (tJ DP '0' (bJ (dJ kL '2' ↑1) Sb) mJ) SR) (zU 0) lX cF 1 [3]})
def fZ:AY:=lY
def tF:AF:=CJ (bJ wJ xN) 1
def tG:AF:=FJ (bJ {'0'} VT) (aM 2 (zB (zU 2) (zB (zU 3) zZ))) fZ
def HK:AF:=AJ '1'
def tH:AF:=zD tF (zD tG HK)
def FG:=fnJ ["rows","pairs","place","i"] tH
def FH:AF:=AJ (bJ {dJ yE '1' ↑0,tJ DP (dJ yE '1' ↑1) mJ (bJ (dJ yE (dJ yE '0' (dJ yE '1' ↑0)) ↑1) Sb)} yH)
def HL:AF:=FH
def HM:=fnJ ["tables","row"] HL
def pW:List (Str×(List MV->Sto->R Er)):=[("Rule",xG),("Never",xG),("Apart",lU),("Tie",xG)]
def xT:AZ:=bJ (NJ "parts_them" 3 pW '1' {'4','5'}) sH
def gB:AE:=bJ {↑"apart",'2','3','0'} yH
def cG:AF:=CJ (dJ yE (dJ yE '0' ↑2) '2') 4
def cH:AF:=CJ (dJ yE (dJ yE '0' ↑2) '3') 5
def cI:AF:=CJ (pJ (bJ {'1'} VT) (aM 2 (zB (zU 0) (zB (zU 1) zZ))) xT gB 2 [2,3,4,5]) 6
def cJ:AF:=iJ (bJ (dJ vK (fJ 2 HM {dJ yE '0' ↑0,'4'}) (fJ 2 HM {dJ yE '0' ↑0,'5'})) jM) (BJ (eJ wZ rH '6' {bJ {↑"key",'2','3'} yH})) JJ
def oY:AF:=AJ '6'
def gR:AF:=zD cG (zD cH (zD cI (zD cJ oY)))
def eE:=fnJ ["book","rules","i","j","row","other","parted"] gR
def AS:List (Str×(List MV->Sto->R Er)):=[("Rule",cC),("Never",cC),("Apart",cC),("Tie",AQ)]
def nU:AZ:=qJ (bJ (NJ "lacks" 3 AS '2' {'3',bJ {'1'} xN}) sH)
def pX:AE:='0'
def nV:AY:=iJ (bJ (NJ "lacks" 3 AS '2' {'4',bJ wJ xN}) sH) (BJ (eJ wZ rH '1' {bJ {'3',pJ (bJ {dJ yE '0' ↑2} VT) (aM 2 (zB (zU 0) (zB (zU 1) zZ))) nU pX 2 [2,4]} yH})) JJ
def aR:AY:=nV
def pY:AY:=FJ (bJ {dJ yE '0' ↑2} VT) (aM 2 (zB (zU 3) (zB (zU 4) zZ))) aR
def oZ:AY:=pY
def AT:AF:=CJ (bJ wJ xN) 1
def AU:AF:=FJ (bJ (fJ 1 lW {'0'}) vI) (zU 2) oZ
def LF:AF:=AJ '1'
def CQ:AF:=zD AT (zD AU LF)
def rM:=fnJ ["book","ties","rule","i","row"] CQ
def dU:AY:=iJ (bJ (dJ (DR false) '2' '0') jM) (AJ (kJ (.bl true))) JJ
def lZ:AY:=dU
def mB:AF:=FJ (bJ '1' vI) (zU 2) lZ
def AV:AF:=AJ (kJ (.bl false))
def tI:AF:=zD mB AV
def tK:=fnJ ["kept","some","number"] tI
def wG:AZ:=rJ (bJ (dJ (DR false) '0' '2') jM) (qJ (bJ (fJ 2 tK {'2','1'}) sH))
def bH:AE:='0'
def dW:AF:=AJ (pJ (bJ '0' vI) (aM 2 (zB (zU 0) (zB (zU 1) zZ))) wG bH 2 [1])
def cK:AF:=dW
def cL:=fnJ ["ties","kept"] cK
def cM:AZ:=uJ
def cN:AE:=bJ {'0',kJ (.bl true)} yH
def pA:AY:=(λ_ _=>R.no)
def vE:AY:=pA
def pB:AY:=FJ (bJ '3' vI) (zU 4) vE
def pC:AY:=CJ (fJ 2 cL {'0','2'}) 3
def vF:AY:=zD pB pC
def rN:AZ:=bJ '3' sH
def eF:AF:=CJ (bJ {pJ (bJ '1' vI) (zU 0) cM cN 1 []} Gf) 2
def eH:AF:=CJ (fJ 2 cL {'0','2'}) 3
def eI:AF:=(λa S=>EU (rN) (vF) 10000 a S)
def eK:AF:=AJ (bJ {'2'} TD)
def pZ:AF:=zD eF (zD eH (zD eI eK))
def gI:=fnJ ["ties","rows","kept","untied","i"] pZ
def WI:List (Str×(List MV->Sto->R Er)):=[("Rule",aO),("Never",sW),("Apart",aO),("Tie",aO)]
def FK:AZ:=uJ
def tL:AE:=NJ "bars" 2 WI '0' {dJ yE (dJ yE '2' ↑2) '1'}
def tN:AZ:=qJ (bJ (bJ {pJ (bJ '2' vI) (zU 0) FK tL 1 [0,1]} Oc) sH)
def FL:AE:='0'
def PF:AF:=CJ (fJ 1 lW {'0'}) 2
def PH:AF:=CJ (pJ (bJ '1' SR) (zU 0) tN FL 1 [0,2]) 3
def PJ:AF:=AJ (fJ 2 gI {fJ 1 rM {'0'},'3'})
def WJ:AF:=zD PF (zD PH PJ)
def PK:=fnJ ["book","rows","rules","allowed"] WJ
def nW:AZ:=bJ (fJ 4 eE {'2','3','0','1'}) sH
def qA:AE:=bJ {'0','1'} yH
def AW:AF:=CJ (fJ 1 lW {'0'}) 1
def BA:AF:=AJ (pJ (bJ (fJ 1 FG {fJ 2 PK {'0',fJ 1 tE {'0'}}}) vI) (aM 2 (zB (zU 0) (zB (zU 1) zZ))) nW qA 2 [0,1])
def CS:AF:=zD AW BA
def JO:=fnJ ["book","rules"] CS
def ED:AY:=(λ_ _=>R.no)
def EE:AY:=(λ_ _=>R.no)
def LG:AY:=zD ED EE
def BB:AF:=CJ zJ 1
def BC:AF:=FJ (bJ (fJ 1 JO {'0'}) vI) (aM 2 (zB (zU 2) (zB (zU 3) zZ))) LG
def LH:AF:=AJ '1'
def JP:AF:=zD BB (zD BC LH)
def JQ:=fnJ ["book","foes","i","j"] JP
def eM:AF:=(iJ (bJ (dJ Q3 (bJ (yJ (vJ 0) wJ) ZR) (kJ (.int (15)))) jM) ((λ_ _=>R.no)) (JJ))
def nY:AF:=eM
def qB:=fnJ ["foes"] nY
def fI:AY:=(λ_ _=>R.no)
def fM:AY:=(λ_ _=>R.no)
def fO:AY:=(λ_ _=>R.no)
def fP:AY:=(λ_ _=>R.no)
def pD:AY:=zD fI (zD fM (zD fO fP))
def cO:AF:=CJ (bJ wJ xN) 1
def cP:AF:=CJ (bJ {bJ wJ yH} xN) 2
def cQ:AF:=FJ (bJ (bJ {'0'} TF) vI) (zU 3) pD
def cR:AF:=AJ '2'
def gT:AF:=zD cO (zD cP (zD cQ cR))
def eO:=fnJ ["foes","known","told","newest","grown","rows","left"] gT
def LI:AF:=(λ_ _=>R.no)
def TX:AF:=LI
def TZ(ds:Q0)(S:Sto):R Er:=zG (TX (zE ["rows","some"] ds) S)
def kQ:AF:=AJ (aJ (dJ Q3 (bJ {'0'} dQ) (bJ {'1'} dQ)) (fJ 2 TZ {'0','1'}))
def wH:AF:=kQ
def bI:=fnJ ["rows","some"] wH
def iA:AZ:=bJ (dJ (DR true) '0' '1') jM
def tO:AE:='0'
def tP:AY:=EJ (kJ (.bl true)) (DJ HA '4' (fJ 2 gI {'3',bJ {dJ kL '2' (bJ {'5'} OH)} ZM}))
def FM:AY:=tP
def tQ:AZ:=uJ
def iB:AE:=fJ 2 bI {'0','1'}
def iC:AZ:=qJ (bJ (bJ {pJ (bJ '1' WH) (zU 0) tQ iB 1 [0]} Oc) sH)
def tR:AE:='0'
def FN:AF:=CJ (fJ 1 JQ {'0'}) 1
def FO:AF:=BJ (fJ 1 qB {'1'})
def FP:AF:=CJ (pJ (bJ (fJ 2 PK {'0',fJ 1 tE {'0'}}) SR) (zU 0) iA tO 1 [1]) 2
def mE:AF:=CJ (fJ 1 rM {'0'}) 3
def FQ:AF:=CJ zJ 4
def FR:AF:=FJ (bJ (fJ 1 eO {'1'}) vI) (zU 5) FM
def FS:AF:=AJ (bJ {pJ (bJ '4' WH) (zU 0) iC tR 1 [4]} Ag)
def HN:AF:=zD FN (zD FO (zD FP (zD mE (zD FQ (zD FR FS)))))
def BD:=fnJ ["book","foes","unharmed","ties","found","rows"] HN
def cS:AY:=iJ (bJ (dJ vK (dJ yE '3' ↑0) ↑"var") jM) (EJ (kJ (.bl true)) (DJ TB '1' (dJ yE '3' ↑1))) JJ
def cT:AY:=cS
def mG:AY:=FJ (bJ (dJ yE '2' ↑1) SR) (zU 3) cT
def cU:AY:=mG
def iD:AF:=CJ zJ 1
def iE:AF:=FJ (bJ '0' itQ) (zU 2) cU
def iG:AF:=AJ (bJ {'1'} JF)
def tS:AF:=zD iD (zD iE iG)
def kR:=fnJ ["atoms","names","atom","term"] tS
def gM:AF:=iJ (rJ (bJ (dJ vK (dJ yE '0' ↑0) ↑"var") jM) (bJ (dJ (DR false) (dJ yE '0' ↑1) '1') jM)) (AJ (bJ {↑"is",dJ ZV '1' (dJ yE '0' ↑1)} yH)) JJ
def EF:AF:=AJ '0'
def BE:AF:=zD gM EF
def BF:=fnJ ["term","values"] BE
def yX:AY:=CJ (iJ (bJ (dJ vK (dJ yE '3' ↑0) ↑"var") jM) (eJ Dg Pl '2' {dJ yE '3' ↑1,'4'}) (dJ yE '3' ↑1)) 5
def nZ:AY:=iJ (bJ (dJ MG '5' '4') jM) (AJ (kJ .non)) JJ
def wC:AY:=zD yX nZ
def pE:AF:=CJ zJ 2
def pF:AF:=FJ (bJ {'0','1'} A6) (aM 2 (zB (zU 3) (zB (zU 4) zZ))) wC
def LK:AF:=AJ '2'
def iR:AF:=zD pE (zD pF LK)
def rO:=fnJ ["terms","cells","values","term","cell","expected"] iR
def gN:AZ:=bJ (dJ vK (dJ yE '0' ↑0) (dJ yE '2' ↑0)) jM
def gO:AE:=bJ {fJ 2 rO {dJ yE '2' ↑1,dJ yE '0' ↑1},'1'} yH
def qC:AZ:=bJ (dJ DY '0' (kJ .non)) jM
def qD:AE:=bJ {'0','1'} yH
def BG:AF:=CJ (pJ (bJ {'0','1'} A6) (aM 2 (zB (zU 0) (zB (zU 1) zZ))) gN gO 2 [2]) 3
def BH:AF:=AJ (pJ (bJ '3' vI) (aM 2 (zB (zU 0) (zB (zU 1) zZ))) qC qD 2 [])
def CT:AF:=zD BG BH
def CV:=fnJ ["rows","marks","atom","fits"] CT
def eP:AZ:=uJ
def gU:AE:=dJ ZV '1' '0'
def qE:AF:=AJ (bJ {pJ (bJ '1' itQ) (zU 0) eP gU 1 [0]} bW)
def pG:AF:=qE
def yY:=fnJ ["values","names"] pG
def JR:AY:=CJ (fJ 2 yY {'3','1'}) 5
def JS:AY:=EJ (dJ Kf (eJ oV vD '2' {'5',↑0}) '4') (DJ HA '2' '5')
def MQ:AY:=zD JR JS
def JT:AZ:=uJ
def rP:AE:=bJ {bJ {'2','0'} Y3,'1'} yH
def WK:AF:=CJ zJ 2
def WL:AF:=FJ (bJ '0' vI) (aM 2 (zB (zU 3) (zB (zU 4) zZ))) MQ
def WM:AF:=AJ (pJ (bJ '2' WG) (aM 2 (zB (zU 0) (zB (zU 1) zZ))) JT rP 2 [1])
def Gk:AF:=zD WK (zD WL WM)
def Ah:=fnJ ["fits","names","told","values","mark","some"] Gk
def tU:AY:=BJ (eJ wZ rH (eJ oV zBH '3' {fJ 2 yY {'4','2'},bJ wJ xN}) {bJ {'4','5'} yH})
def tV:AY:=tU
def tW:AY:=iJ (bJ (dJ AG '8' '5') sH) (zD (CJ (bJ {'7'} Dk) 9) (zD (BJ (eJ Dg OZ '9' {'4'})) (BJ (eJ wZ rH '6' {bJ {'9',dJ AG '8' '5'} yH})))) JJ
def mH:AY:=tW
def tX:AY:=FJ (bJ (eJ oV vD '3' {fJ 2 yY {'7','2'},bJ wJ xN}) vI) (aM 2 (zB (zU 4) (zB (zU 5) zZ))) mH
def tY:AY:=tX
def FU:AF:=CJ zJ 3
def FV:AF:=FJ (bJ '1' vI) (aM 2 (zB (zU 4) (zB (zU 5) zZ))) tV
def FW:AF:=CJ (bJ wJ xN) 6
def FX:AF:=FJ (bJ '0' vI) (aM 2 (zB (zU 7) (zB (zU 8) zZ))) tY
def PL:AF:=AJ '6'
def HP:AF:=zD FU (zD FV (zD FW (zD FX PL)))
def HQ:=fnJ ["fits","others","shared","by_shared","more","other","together","values","mark","both"] HP
def kS:AZ:=bJ (dJ (QS false) '0' '1') jM
def aS:AE:='0'
def kT:AZ:=sJ (bJ (dJ (QS false) '0' '1') jM) (bJ (dJ (QS false) '0' '2') jM)
def aT:AE:='0'
def kU:AZ:=bJ (dJ (QS true) '0' '1') jM
def aU:AE:='0'
def kW:AZ:=bJ (dJ (QS false) '0' '1') jM
def aV:AE:='0'
def kX:AY:=CJ (fJ 1 kR {bJ {'8'} xN}) 9
def kY:AY:=CJ (pJ (bJ '9' vI) (zU 0) kS aS 1 [5]) 10
def kZ:AY:=CJ (dJ kL (bJ {'3'} OH) (fJ 1 kR {tJ DP '4' (bJ (dJ kL '7' ↑1) Sb) mJ})) 11
def jA:AY:=CJ (fJ 2 Ah {fJ 3 CV {'0','1','8'},pJ (bJ '9' vI) (zU 0) kT aT 1 [10,11]}) 12
def jB:AY:=CJ (pJ (bJ '9' vI) (zU 0) kU aU 1 [10]) 13
def jC:AY:=CJ (pJ (bJ (dJ kL '5' '=') vI) (zU 0) kW aV 1 [11]) 5
def jD:AY:=CJ (fJ 2 Ah {fJ 3 HQ {'6','<',':'},'5'}) 6
def yO:AY:=zD kX (zD kY (zD kZ (zD jA (zD jB (zD jC jD)))))
def xH:AZ:=uJ
def yS:AE:=bJ {fJ 2 yY {'0','2'},'1'} yH
def mI:AF:=CJ (dJ yE '2' ↑0) 3
def mK:AF:=CJ (dJ yE '2' ↑1) 4
def bK:AF:=CJ (bJ wJ xN) 5
def bL:AF:=CJ (bJ {bJ (yJ zJ {↑(-1)}) yH} xN) 6
def bM:AF:=FJ (bJ {'4'} VT) (aM 2 (zB (zU 7) (zB (zU 8) zZ))) yO
def bN:AF:=AJ (bJ {pJ (bJ '6' vI) (aM 2 (zB (zU 0) (zB (zU 1) zZ))) xH yS 2 [3]} TR)
def dX:AF:=zD mI (zD mK (zD bK (zD bL (zD bM bN))))
def yZ:=fnJ ["rows","marks","question","head","atoms","known","fits","place","atom","own","shared","asked","others","new"] dX
def qF:AZ:=uJ
def qG:AE:=↑1
def BI:AF:=AJ (fJ 1 lL {bJ {fJ 3 yZ {'0',pJ (bJ '0' vI) (zU 0) qF qG 1 [],'1'}} sO})
def CW:AF:=BI
def rQ:=fnJ ["rows","question"] CW
def mL:AZ:=uJ
def mN:AE:=↑0
def mP:AY:=zGA Kf '2' '5' (dJ Nr ↑1 '3')
def iH:AY:=mP
def mQ:AY:=FJ (bJ '4' SR) (zU 5) iH
def tZ:AY:=mQ
def uA:AF:=CJ (pJ (bJ (dJ yE '0' ↑2) SR) (zU 0) mL mN 1 []) 2
def uB:AF:=FJ (bJ {'1'} VT) (aM 2 (zB (zU 3) (zB (zU 4) zZ))) tZ
def HR:AF:=AJ '2'
def uC:AF:=zD uA (zD uB HR)
def FY:=fnJ ["book","told","marks","place","rows","i"] uC
def uD:AF:=AJ (fJ 3 yZ {dJ yE '0' ↑2,fJ 2 FY {'0','1'},'2'})
def uE:AF:=uD
def jE:=fnJ PD uE
def uF:AZ:=bJ (dJ vK '1' '2') jM
def FZ:AE:='0'
def PM:AF:=CJ (fJ 1 BD {'0'}) 2
def PN:AF:=CJ (dJ Cp (dJ Nr ↑1 (bJ {'2'} dQ)) ↑1) 3
def PQ:AF:=AJ (fJ 1 lL {pJ (bJ (fJ 3 jE {'0','2','1'}) WG) (aM 2 (zB (zU 0) (zB (zU 1) zZ))) uF FZ 2 [3]})
def WN:AF:=zD PM (zD PN PQ)
def Du:=fnJ ["book","question","told","everywhere"] WN
def JU:AF:=AJ (fJ 1 lL {bJ {fJ 3 jE {'0',fJ 1 BD {'0'},'1'}} sO})
def MS:AF:=JU
def WO:=fnJ ["book","question"] MS
def eQ:AZ:=uJ
def gV:AE:=fJ 2 BF {'0','1'}
def qH:AF:=AJ (bJ {dJ yE '0' ↑0,bJ {pJ (bJ (dJ yE '0' ↑1) SR) (zU 0) eQ gV 1 [1]} bW} yH)
def pH:AF:=qH
def BK:=fnJ ["atom","values"] pH
def mR:AZ:=uJ
def cV:AE:=fJ 2 BK {'0','1'}
def uG:AF:=CJ (bJ {dJ yE '0' ↑0,'1'} Y3) 2
def uH:AF:=AJ (bJ {bJ wJ yH,bJ {pJ (bJ (dJ yE '0' ↑1) SR) (zU 0) mR cV 1 [2]} bW} yH)
def uI:AF:=zD uG uH
def GA:=fnJ ["question","answer","values"] uI
def wI:AY:=BJ (eJ wZ rH (dJ yE '5' (dJ AG (dJ Xf '4' '6') ↑1)) {'7'})
def jF:AY:=wI
def jG:AF:=CJ (fJ 1 BD {'0'}) 3
def jH:AF:=CJ (eJ oV vD (fJ 3 jE {'0','3',fJ 2 GA {'1','2'}}) {bJ wJ yH,↑0}) 4
def jI:AF:=CJ (bJ {bJ wJ xN,bJ wJ xN} yH) 5
def jK:AF:=FJ (bJ {'3'} VT) (aM 2 (zB (zU 6) (zB (zU 7) zZ))) jF
def aW:AF:=AJ '5'
def xA:AF:=zD jG (zD jH (zD jI (zD jK aW)))
def xB:=fnJ ["book","question","answer","told","mark","parted","place","rows"] xA
def uK:AF:=AJ (iJ (bJ '0' sH) (dJ yE '0' ↑0) (kJ .non))
def uL:AF:=uK
def uM:=fnJ ["told"] uL
def BL:AF:=AJ (fJ 1 uM {dJ yE (fJ 3 xB {'0','1','2'}) ↑0})
def CY:AF:=BL
def CZ:=fnJ iQ CY
def uN:AF:=AJ (fJ 1 uM {dJ yE (fJ 3 xB {'0','1','2'}) ↑1})
def uO:AF:=uN
def uP:=fnJ iQ uO
def PR:AF:=CJ (fJ 3 xB {'0','1','2'}) 3
def PV:AF:=AJ (bJ {bJ {dJ yE '3' ↑1} dQ,dJ kL (bJ {dJ yE '3' ↑0} dQ) (bJ {dJ yE '3' ↑1} dQ)} yH)
def Dv:AF:=zD PR PV
def WP:=fnJ ["book","question","answer","parted"] Dv
def jS:AF:=iJ (bJ (dJ Q1 '1' (bJ {'0'} dQ)) jM) (AJ (dJ yE '0' '1')) JJ
def rR:AF:=AJ ↑0
def cW:AF:=zD jS rR
def zX:=fnJ [Œ,ŕ] cW
def cX:AY:=CJ (dJ RD (dJ kL (dJ kL (dJ EX '2' ↑48271) (dJ EX ↑7919 '4')) ↑11) ↑2147483647) 2
def cY:AY:=CJ (dJ RD (dJ EX '2' '2') ↑2147483629) 5
def cZ:AY:=CJ (dJ kL (dJ EX '3' ↑2147483587) (dJ RD (dJ EX '5' ↑69621) ↑2147483587)) 3
def gW:AY:=zD cX (zD cY cZ)
def gX:AF:=CJ (dJ YY '0' ↑2) 1
def gY:AF:=iJ (bJ (dJ vK (dJ RD '0' ↑2) ↑0) jM) (AJ (bJ {'1'} xN)) JJ
def eR:AF:=CJ (dJ RD '1' ↑2147483647) 2
def vG:AF:=CJ ↑0 3
def eT:AF:=FJ (bJ {↑16} iW) (zU 4) gW
def eU:AF:=AJ (bJ {'3'} xN)
def aB:AF:=zD gX (zD gY (zD eR (zD vG (zD eT eU))))
def yQ:=fnJ ["_law_cell","_law_rest","_law_number","_law_total",ŕ,"_law_other"] aB
def aC:AF:=CJ (dJ RD (dJ yE '0' ↑0) '1') 2
def aD:AF:=EJ (dJ YY (dJ yE '0' ↑0) '1') (DJ KU '0' ↑0)
def EG:AF:=AJ '2'
def BM:AF:=zD aC (zD aD EG)
def zL:=fnJ KZ BM
def eV:AY:=CJ (dJ kL '2' (dJ yE '1' (fJ 2 zL {'0',↑26}))) 2
def aF:AY:=eV
def EH:AF:=CJ ↑"abcdefghijklmnopqrstuvwxyz" 1
def EI:AF:=CJ (kJ (.str [])) 2
def qI:AF:=FJ (bJ {dJ kL ↑1 (fJ 2 zL {'0',↑8})} iW) (zU 3) aF
def EK:AF:=AJ '2'
def BN:AF:=zD EH (zD EI (zD qI EK))
def aX:=fnJ [ŏ,"_law_letters",Ř,ŕ] BN
def eW:AY:=CJ (fJ 2 zL {'0',↑4}) 4
def eX:AY:=CJ (dJ Cp (fJ 2 zL {'0',↑9}) ↑4) 5
def gZ:AY:=iJ (bJ (dJ vK '4' ↑1) jM) (CJ (dJ kL (dJ Cp (fJ 2 zL {'0',dJ Cp (dJ EX ↑2 (dJ Va ↑10 ↑30)) ↑1}) (dJ Va ↑10 ↑30)) ↑1) 5) JJ
def bA:AY:=iJ (bJ (dJ Q3 '4' ↑1) jM) (CJ (fJ 1 aX {'0'}) 5) JJ
def bB:AY:=iJ (bJ (dJ (QS true) '5' '2') jM) (BJ (eJ wZ rH '2' {'5'})) JJ
def aG:AY:=zD eW (zD eX (zD gZ (zD bA bB)))
def qK:AF:=CJ (bJ wJ xN) 2
def qL:AF:=FJ (bJ {'1'} iW) (zU 3) aG
def qN:AF:=AJ '2'
def LL:AF:=zD qK (zD qL qN)
def aY:=fnJ [ŏ,Ŗ,ő,ŕ,"_law_way","_law_value"] LL
def dA:AY:=CJ (dJ kL ↑1 (fJ 2 zL {'0',↑3})) 3
def dB:AY:=BJ (eJ wZ rH '1' {bJ {'3',fJ 2 zL {'0',dJ kL '3' ↑1}} yH})
def bC:AY:=zD dA dB
def eY:AF:=CJ (bJ wJ xN) 1
def eZ:AF:=FJ (bJ {dJ kL ↑1 (fJ 2 zL {'0',↑3})} iW) (zU 2) bC
def fA:AF:=AJ '1'
def qO:AF:=zD eY (zD eZ fA)
def qP:=fnJ [ŏ,Ő,ŕ,"_law_wide"] qO
def mT:AZ:=uJ
def dC:AE:=dJ yE '2' (fJ 2 zL {'1',bJ {'2'} dQ})
def iI:AF:=CJ (fJ 2 zL {'0',bJ {'1'} dQ}) 3
def iK:AF:=AJ (bJ {'3',bJ {pJ (bJ {dJ yE (dJ yE '1' '3') ↑0} iW) (zU 0) mT dC 1 [0,2]} bW} yH)
def uQ:AF:=zD iI iK
def GB:=fnJ [ŏ,Ő,ő,Ş] uQ
def bD:AZ:=uJ
def wR:AE:=fJ 1 yQ {'0'}
def fB:AY:=CJ (fJ 3 GB {'8','2','3'}) 9
def xF:AY:=iJ (rJ (bJ (dJ (QS true) '9' '7') jM) (bJ (dJ Q1 (bJ {'7'} dQ) '4') jM)) (BJ (eJ wZ rH '7' {'9'})) JJ
def gP:AY:=zD fB xF
def qQ:AF:=CJ (fJ 1 yQ {'1'}) 5
def qS:AF:=CJ (fJ 2 zL {'5',↑20}) 6
def qT:AF:=CJ (bJ wJ xN) 7
def qU:AF:=FJ (bJ (dJ kL (pJ (bJ '0' vI) (zU 0) bD wR 1 []) (dJ EX (bJ {'5'} xN) '6')) vI) (zU 8) gP
def EL:AF:=AJ '7'
def pI:AF:=zD qQ (zD qS (zD qT (zD qU EL)))
def BO:=fnJ [Ŝ,"_law_extra",Ő,ő,Ś,"_law_more",Ŗ,ŗ,ŏ,"_law_row_here"] pI
def wU:AF:=iJ (bJ (dJ vK (fJ 2 zL {'0',↑4}) ↑0) jM) (AJ (bJ {↑"is",dJ yE '2' (fJ 2 zL {'0',bJ {'2'} dQ})} yH)) JJ
def aH:AF:=AJ (bJ {↑"var",dJ yE '1' (fJ 2 zL {'0',bJ {'1'} dQ})} yH)
def bU:AF:=zD wU aH
def BP:=fnJ LA bU
def dY:AZ:=uJ
def jT:AE:=fJ 3 BP {'1','2','3'}
def dZ:AY:=CJ (fJ 2 zL {'0',bJ {'1'} dQ}) 7
def nA:AY:=BJ (eJ wZ rH '5' {bJ {'7',bJ {pJ (bJ {dJ yE (dJ yE '1' '7') ↑0} iW) (zU 0) dY jT 1 [0,2,3]} bW} yH})
def dD:AY:=zD dZ nA
def mU:AF:=CJ (bJ wJ xN) 5
def mV:AF:=FJ (bJ {'4'} iW) (zU 6) dD
def mW:AF:=AJ '5'
def uR:AF:=zD mU (zD mV mW)
def uT:=fnJ [ŏ,Ő,Ŕ,ő,Ŗ,œ,ŕ,Ş] uR
def xU:AY:=iJ (rJ (bJ (dJ vK '4' ↑"var") jM) (bJ (dJ (QS true) '5' '1') jM)) (BJ (eJ wZ rH '1' {'5'})) JJ
def yK:AY:=xU
def gC:AY:=FJ (bJ '3' SR) (aM 2 (zB (zU 4) (zB (zU 5) zZ))) yK
def kD:AY:=gC
def kE:AF:=CJ (bJ wJ xN) 1
def kG:AF:=FJ (bJ '0' itQ) (aM 2 (zB (zU 2) (zB (zU 3) zZ))) kD
def kH:AF:=AJ '1'
def bE:AF:=zD kE (zD kG kH)
def fC:=fnJ [œ,"_law_found",Ş,"_law_terms",Ř,"_law_name"] bE
def fE:AY:=iJ (bJ (dJ MG '3' (bJ wJ xN)) jM) (BJ (eJ wZ rH '4' {eJ wZ Jm '3' {fJ 2 zL {'0',bJ {'3'} dQ}}})) JJ
def aI:AY:=fE
def qV:AF:=CJ (fJ 1 fC {'1'}) 3
def qW:AF:=CJ (bJ wJ xN) 4
def qX:AF:=FJ (bJ {fJ 2 zL {'0',dJ kL '2' ↑1}} iW) (zU 5) aI
def qY:AF:=AJ '4'
def pM:AF:=zD qV (zD qW (zD qX qY))
def pN:=fnJ [ŏ,œ,Ś,"_law_there","_law_head_here",ŕ] pM
def nB:AY:=CJ (fJ 1 aX {'0'}) 4
def jU:AY:=iJ (bJ (dJ (QS false) '4' '2') jM) (CJ (dJ yE (bJ {dJ kL ↑"b" '1',dJ kL (dJ kL ↑"b" '1') ↑"a"} xN) '3') 4) JJ
def nE:AY:=BJ (eJ wZ rH '2' {'4'})
def jL:AY:=zD nB (zD jU nE)
def dE:AF:=CJ (tJ DP (fJ 1 aX {'0'}) mJ (bJ ↑6 Sb)) 1
def dF:AF:=iJ (bJ (dJ vK (fJ 2 zL {'0',↑2}) ↑0) jM) (AJ (bJ {'1',dJ kL '1' ↑"a",dJ kL ↑"b" '1'} xN)) JJ
def mX:AF:=CJ (bJ {'1'} xN) 2
def mY:AF:=FJ (bJ {↑2} iW) (zU 3) jL
def mZ:AF:=AJ '2'
def HS:AF:=zD dE (zD dF (zD mX (zD mY mZ)))
def uU:=fnJ [ŏ,"_law_base",Ŕ,ŕ,"_law_name"] HS
def xI:AY:=CJ (bJ {'4',tJ DP '5' mJ (bJ (dJ yE (dJ yE '1' '4') ↑1) Sb)} yH) 6
def xK:AY:=iJ (bJ (dJ (QS true) '6' '3') jM) (zD (BJ (eJ wZ rH '3' {'6'})) (BJ (eJ wZ rH '2' {bJ {'4','5'} yH}))) JJ
def wK:AY:=zD xI xK
def bO:AF:=CJ (bJ wJ xN) 2
def bP:AF:=CJ (bJ wJ xN) 3
def bQ:AF:=FJ (bJ '0' vI) (aM 2 (zB (zU 4) (zB (zU 5) zZ))) wK
def oA:AF:=AJ '2'
def jV:AF:=zD bO (zD bP (zD bQ oA))
def nF:=fnJ [ŗ,Ő,"_law_found","_law_keys",Ş,Ŝ,"_law_start"] jV
def wL:AY:=iJ (bJ (dJ (QS true) '1' '0') jM) (AJ '1') JJ
def xY:AY:=wL
def nG:AF:=FJ (bJ (bJ {↑"nobody",↑"nowhere",↑"never",↑"noone",↑"nought"} xN) vI) (zU 1) xY
def rS:AF:=AJ ↑"none"
def oB:AF:=zD nG rS
def oC:=fnJ [ő,Ř] oB
def oE:AF:=CJ (bJ {bJ {dJ yE '0' ↑2} dQ} HD) 3
def oF:AF:=iJ (sJ (bJ (dJ MG (fJ 3 WP {'0','1','2'}) (bJ {↑1,↑1} yH)) jM) (bJ (dJ DY (fJ 3 CZ {'0','1','2'}) (kJ .non)) jM)) (AJ (kJ (.bl false))) JJ
def oG:AF:=AJ (dJ vK (fJ 3 uP {'0','1','2'}) '3')
def uV:AF:=zD oE (zD oF oG)
def uW:=fnJ [ŝ,ř,ś,"_law_whole"] uV
def JV:AY:=iJ (qJ (bJ (fJ 3 uW {'=','6','>'}) sH)) (AJ (kJ (.bl false))) JJ
def MT:AY:=JV
def JW:AY:=CJ (bJ {'1','<',bJ {'7'} bW} yH) 13
def JX:AY:=iJ (sJ (bJ (dJ MG (fJ 2 Du {'=','6'}) '8') jM) (bJ (dJ MG (fJ 2 WO {'=','6'}) '8') jM)) (AJ (kJ (.bl false))) JJ
def JY:AY:=FJ (bJ (tJ DP '8' mJ (bJ ↑5 Sb)) vI) (zU 14) MT
def DA:AY:=iJ (rJ (bJ (dJ MG ';' (bJ wJ yH)) jM) (bJ (dJ MG (fJ 3 WP {'=','6',';'}) (bJ {↑0,↑1} yH)) jM)) (AJ (kJ (.bl false))) JJ
def DB:AY:=iJ (rJ (bJ (dJ MG ';' (bJ wJ yH)) jM) (bJ (dJ DY (fJ 3 uP {'=','6',';'}) (kJ .non)) jM)) (AJ (kJ (.bl false))) JJ
def DC:AY:=iJ (rJ (bJ (dJ MG ';' (bJ wJ yH)) jM) (bJ (dJ MG (fJ 3 CZ {'=','6',';'}) (bJ {bJ {'7'} dQ} HD)) jM)) (AJ (kJ (.bl false))) JJ
def HU:AY:=zD JW (zD JX (zD JY (zD DA (zD DB DC))))
def WQ:AF:=CJ (bJ {fJ 1 qP {fJ 1 yQ {fJ 2 zX {'0',↑0}}}} bW) 1
def WR:AF:=CJ (fJ 2 aY {fJ 1 yQ {fJ 2 zX {'0',↑1}},↑4}) 2
def WS:AF:=CJ (fJ 1 uU {fJ 1 yQ {fJ 2 zX {'0',↑2}}}) 3
def WT:AF:=CJ (fJ 1 yQ {fJ 2 zX {'0',↑3}}) 4
def WU:AF:=CJ (fJ 5 uT {'4','1','3','2',dJ kL ↑1 (fJ 2 zL {'4',↑3})}) 5
def WV:AF:=CJ (bJ {bJ {fJ 3 pN {fJ 1 yQ {fJ 2 zX {'0',↑5}},'5',↑2}} bW,bJ {'5'} bW} yH) 6
def WW:AF:=CJ (fJ 2 nF {fJ 5 BO {tJ DP '0' (bJ ↑6 Sb) mJ,fJ 2 zX {'0',↑4},'1','2',↑30},'1'}) 7
def WX:AF:=CJ (fJ 2 rQ {'7','6'}) 8
def WY:AF:=CJ (fJ 1 oC {'2'}) 9
def PX:AF:=CJ (bJ {bJ {↑"never",↑0,bJ {bJ {bJ {↑"cell",↑0,↑0} yH,↑"same",bJ {↑"is",'9'} yH} yH} yH} yH,bJ {↑"tie",↑0,bJ {↑0} yH,↑0,bJ {↑0} yH} yH} yH) 10
def PY:AF:=CJ (dJ SZ (bJ {'9'} yH) (bJ {dJ yE '6' ↑0} dQ)) 11
def PZ:AF:=FJ (bJ (bJ {bJ wJ yH,':'} xN) vI) (zU 12) HU
def Ai:AF:=AJ (kJ (.bl true))
end
def Gn:AF:=zD (WQ) (zD (WR) (zD (WS) (zD (WT) (zD (WU) (zD (WV) (zD (WW) (zD (WX) (zD (WY) (zD (PX) (zD (PY) (zD (PZ) ((Ai)))))))))))))
def Aj:=fnJ [Œ,Ő,ő,Ŕ,ŏ,œ,ř,ŗ,"_law_due","_law_odd","_law_idle","_law_strange_here","_law_rules",ŝ,ś] Gn
section
variable{r:R α}
theorem ev_v(e:ρ[i]? =some (some d)):vJ i ρ S=#[d,S,1]:=by unfold vJ;rw[e];rfl
def ev_b{f:Rho->Sto->R β}(e:f ρ S=.ok a S1)(k:F a S1=r):bJ f F ρ S=r:=by unfold bJ;rw[e];exact k
def ev_d(e:f ρ S=.ok p S1)(a:g ρ S1=.ok q S2)(k:F p q S2=z):dJ F f g ρ S=z:=by unfold dJ;rw[e,jO,a];exact k
def ev_i{f g:Rho->Sto->R α}(e:c ρ S=.ok k S1)(h:(if k=true then f ρ S1 else g ρ S1)=r):iJ c f g ρ S=r:=by unfold iJ;rw[e];exact h
def ev_f(e:a ρ S=.ok rs S1)(k:zC n F rs S1=z):fJ n F a ρ S=z:=by unfold fJ;rw[e];exact k
def ev_e(e:f ρ S=.ok p S1)(c:t p S1=true)(b:a ρ S1=.ok rs S2)(k:F p rs S2=z):eJ t F f a ρ S=z:=by unfold eJ;rw[e,jO,iP c,b];exact k
theorem ev_q{f:AZ}(e:f ρ S=.ok k S1):qJ f ρ S=.ok (!k) S1:=by unfold qJ;rw[e];rfl
def ev_r{f g:AZ}{r:R Bool}(e:f ρ S=.ok k S1)(h:(if k=true then g ρ S1 else .ok false S1)=r):rJ f g ρ S=r:=by unfold rJ;rw[e];exact h
def ev_s{f g:AZ}{r:R Bool}(e:f ρ S=.ok k S1)(h:(if k=true then .ok true S1 else g ρ S1)=r):sJ f g ρ S=r:=by unfold sJ;rw[e];exact h
theorem ev_y{g:Rho->Sto->R (List Er)}(e:f ρ S=.ok p S1)(a:g ρ S1=.ok l S2):yJ f g ρ S=.ok (p::l) S2:=by unfold yJ;rw[e,jO,a];rfl
def ev_A(e:f ρ S=.ok p S1)(k:.ok (.ret p) S1=y):AJ f ρ S=y:=by unfold AJ;rw[e];exact k
def ev_B(e:f ρ S=.ok p S1)(k:#[ρ,S1,0]=y):BJ f ρ S=y:=by unfold BJ;rw[e];exact k
def ev_C(e:f ρ S=.ok p S1)(k:NY ρ i p S1=y):CJ f i ρ S=y:=by unfold CJ;rw[e];exact k
def ev_F{g:MV->Rho->Sto->R Rho}(e:i ρ S=.ok k S1)(h:wO g b k.gs k.ds ρ S1=y):FJ i g b ρ S=y:=by unfold FJ;rw[e];exact h
def zEN(h:a=r):(if true=true then a else b)=r:=h
def zEO(h:b=r):(if false=true then a else b)=r:=h
def zEP[Decidable c](j: ¬c)(h:b=r):(if decide c=true then a else b)=r:=by rw[dF0 j];exact h
end
section
def modA(h:0<b:=by first |decide|omega):RD #[a,5] #[b,5] S=.ok #[a % b,5] S:=mod_lit h a S
def divA(h:0<b/\b<1073741824:=by first |decide|omega):YY #[a,5] #[b,5] S=.ok #[a / b,5] S:=VN h.1 h.2 a S
def mulB(h:0<=b/\b<4294967296:=by first |exact mdl|decide|omega):EX #[a,5] #[b,5] S=.ok #[a * b,5] S:=MK {by lia,by lia} a S
end
set_option bootstrap.genMatcherCode true in
local macro_rules
 | `(tactic|exists 7,$[$hs],*)=>`(tactic|first
  |(with_reducible first $[|exact $hs ..]*)
  |((with_reducible first |apply ev_v|apply ev_b|apply ev_d|apply ev_y|apply ev_f|apply ev_C|apply ev_A|apply ev_i|apply zEN|apply zEO|apply ev_F|apply ev_p|apply ev_e|apply ev_B|apply ev_r|apply ev_s|apply ev_q|apply ev_a|apply ev_o|apply ev_n|apply ev_t|apply ev_g|apply ev_E|apply ev_D)<;>exists 7,$[$hs],*)
  |(with_reducible first |exact eq_int .. |exact tup2 .. |exact Wb .. |exact RH .. |exact lst1 .. |exact Wa .. |exact zDK ..)
  |(with_reducible show RD _ _ _=_);exact modA
  |(with_reducible show YY _ _ _=_);exact divA
  |(with_reducible show EX _ _ _=_);(first |exact mulA|exact mulB)
  |(with_reducible show iW _ _=_);exact EZ (by omega)
  |(with_reducible show zV _ _ _ _ _ _ _=_);(first $[|exact $hs]*)
  |(with_reducible show wO _ _ _ _ _ _=_);(first $[|exact $hs]*)
  |(with_reducible first $[|exact of_eq_true $hs]* $[|refine ite_d $hs ?_]* $[|refine zEP $hs ?_]* $[|refine(iP $hs).trans ?_]* $[|refine(iN $hs).trans ?_]*)<;>exists 7,$[$hs],*
  |exact rfl)
def Yc(h:Uz 0 b)(a)(S):YY #[a,5] #[b,5] S=.ok #[a / b,5] S:=iP h
def wM(a:S[l]? =#[ds,2])(hz:↑11<1000000):rH #[l,1] [.val d] S=#[.non,S.set l (.lst (ds++[d])),1]:=by show RG #[l,1] S (λds=>if ↑11<sizeLine then some _ else none)=_;unfold RG;dsimp only;rw[a];dsimp only;rw[iP (ä hz (fits (à _)))]
theorem xD(a:S[l]? =#[ds,2]):wZ #[l,1] S=true:=by unfold wZ;rw[lB a];rfl
def Ak(b:S[l]? =#[ds,2])(a:QR ↑11 k=some j):KU #[l,1] #[k,5] d ρ S=.ok ρ (S.set l (.lst (ds.set j d))):=by unfold KU;dsimp only;rw[b];dsimp only;rw[a]
def get_set{S:Sto}(h:S[l]? =some o):(S.set l o')[l]? =some o':=Ĥ (gS.mp h).1
def GC{S:Sto}(h:l≠m):(S.set l o')[m]? =S[m]? :=ħ h
def UA(a:S[l]? =#[ds,2]):bW [#[l,1]] S=.ok #[ds,6] S:=by show(match xQ S _ with |some ds=>R.ok _ S|none=>.no)=_;rw[lB a]
theorem DE(ds)(S):dQ [#[ds,6]] S=.ok #[↑11,5] S:=rfl
theorem MU(gf)(ρ)(d)(S):Uo gf ρ (.val d) S=(gf d ρ S).bind λρ' S2=>#[ρ',S2,0]:=rfl
noncomputable def tbl(p:Int×Int):MV:=.tup [.int p.1,.int p.2]
def Se(ts:Tk):Prop:=1<=ts.length/\ts.length<=4/\ ∀p∈ts,1<=p.1/\p.1<=4/\0<=p.2/\p.2<=p.1
mutual
def pd:MV->Bool
 |.int _=>true
 |.str _=>true
 |.tup ds=>YI ds
 |_=>false
def YI:List MV->Bool
 |[]=>true
 |d::ds=>pd d&&YI ds
end
mutual
def EM:MV->Nat
 |.tup ds=>LV ds+1
 |_=>0
def LV:List MV->Nat
 |[]=>0
 |d::ds=>max (EM d) (LV ds)
end
def wV(ds):pd (.tup ds)=YI ds:=by rw[pd]
def MW:YI []=true:=by rw[YI]
def xC(d)(ds):YI (d::ds)=(pd d&&YI ds):=by rw[YI]
def iL(ds):EM (.tup ds)=LV ds+1:=by rw[EM]
def xZ(d)(ds):LV (d::ds)=max (EM d) (LV ds):=by rw[LV]
def QA:LV []=0:=by rw[LV]
def Qf(i):pd (.int i)=true:=by rw[pd]
def BQ(i):pd (.str i)=true:=by rw[pd]
def MX(i):EM (.int i)=0:=by simp[EM]
def DF(i):EM (.str i)=0:=by simp[EM]
theorem iM: ∀{ds},(∀d∈ds,pd d=true)->YI ds=true
 |[],_=>MW
 |d::ds,h=>by rw[xC,h d mF0,iM λe j=>h e (mO _ j)];rfl
theorem WZ: ∀{ds},YI ds=true-> ∀d∈ds,pd d=true
 |[],_,d,h=>by simp at h
 |e::ds,hp,d,h=>by
  rw[xC,aE]at hp;rcases mC.mp h with rfl|h
  .exact hp.1
  .exact WZ hp.2 d h
theorem MY: ∀{ds}{n},(∀d∈ds,EM d<=n)->LV ds<=n
 |[],n,_=>by rw[QA];exact zero_le _
 |d::ds,n,h=>by
  rw[xZ];have j:=h d mF0;have b:=MY λe a=>h e (mO _ a)
  lia
theorem Al: ∀{ds}, ∀d∈ds,EM d<=LV ds
 |[],d,h=>by simp at h
 |e::ds,d,h=>by
  rcases mC.mp h with rfl|h
  .exact Nat.le_max_left _ _
  .exact ó (Al d h) (Nat.le_max_right _ _)
def Am(h:pd d=true):(∃i,d=.int i)\/(∃x,d=.str x)\/ ∃ds,d=.tup ds/\YI ds=true:=by
 cases d with
 |int i=>exact .inl ⟨i,rfl⟩
 |str x=>exact .inr (.inl ⟨x,rfl⟩)
 |tup ds=>exact .inr (.inr {ds,rfl,by rw[<-wV];exact h})
 |_=>rw[pd]at h<;>first |cases h|(intros;simp)
def dec_is[Decidable p][Decidable q](h:p↔q):decide p=decide q:=by
 by_cases a:q
 .rw[dT0 a,dT0 (h.mpr a)]
 .rw[dF0 a,dF0 λz=>a (h.mp z)]
theorem QB: ∀{ds es},(∀d∈ds, ∀f∈es,e d f=some (decide (d=f)))-> ∃bs,LS e ds es=some bs/\(bs.all id&&↑11==es.length)=decide (ds=es)
 |[],[],_=>{[],rfl,by simp}
 |[],_::_,_=>{[],rfl,by simp}
 |_::_,[],_=>{[],rfl,by simp}
 |d::ds,f::es,h=>by
  refine(QB λa j b c=>h a (mO _ j) b (mO _ c)).a λbs m q=>?_;refine{decide (d=f)::bs,?_,?_}
  .unfold LS;rw[h d mF0 f mF0,m];rfl
  .by_cases hd:d=f
   .subst hd;rw[List.all_cons,dT0 rfl];simp only[id,Bool.true_and,lC];rw[show(↑11+1==es.length+1)=(↑11==es.length) by simp,q];exact dec_is (by simp)
   .rw[dF0 hd];rw[dF0 (λz=>hd (List.cons.inj z).1)];rfl
theorem oH: ∀ n {d e},pd d=true->pd e=true->EM d<n->eqv S n d e=some (decide (d=e))
 |0,d,e,_,_,h=>by lia
 |n+1,d,e,hd,he,h=>by
  rcases Am hd with⟨i,rfl⟩|⟨x,rfl⟩|⟨ds,rfl,pds⟩<;>rcases Am he with⟨j,rfl⟩|⟨y,rfl⟩|⟨es,rfl,pes⟩
  .rw[MH];exact congrArg some (dec_is (by simp))
  .rw[T3,dF0 (by simp)]
  .rw[dF0 (by simp)];rfl
  .rw[T6,dF0 (by simp)]
  .rw[GX];exact congrArg some (dec_is (by simp))
  .rw[dF0 (by simp)];rfl
  .rw[dF0 (by simp)];rfl
  .rw[dF0 (by simp)];rfl
  .rw[iL]at h;obtain⟨bs,q,u⟩:=QB λa c b m=>oH n (WZ pds a c) (WZ pes b m) (by have:=Al a c;lia);show((LS _ ds es).map λbs=>bs.all id&&↑11==es.length)=_;rw[q];show some (bs.all id&&↑11==es.length)=_;rw[u];exact congrArg some (dec_is (by simp))
def XA(hd:pd d=true/\EM d<40)(a:pd e=true):vK (.val d) (.val e) S=#[.bl (decide (d=e)),S,1]:=OL (oH _ hd.1 a (ĸ hd.2))
theorem An(hd:pd d=true): ∀{ys},(∀y∈ys,pd y=true/\EM y<40)->YZ S zO d ys=some (ys.map λy=>decide (y=d))
 |[],_=>rfl
 |y::ys,h=>by have j:=h y mF0;unfold YZ;rw[oH zO j.1 hd (by unfold zO;exact j.2),An hd λz a=>h z (mO _ a)];rfl
def SqM(S:Sto)(m:MV)(ds:Q0):Prop:=m=.tup ds\/ ∃l,m=.loc l/\S[l]? =#[ds,2]
def SqM.len(h:SqM S m ds):dQ [.val m] S=.ok #[↑11,5] S:=by
 rcases h with rfl|⟨l,rfl,hS⟩
 .rfl
 .exact wF hS
def SqM.app(h:SqM S m ds):SqM (S++T) m ds:=by
 rcases h with h|⟨l,h,hS⟩
 .exact .inl h
 .exact .inr {l,h,by rw[ã (gS.mp hS).1];exact hS}
def xL(b:↑4=n)(m:zK rs S=(as,S2))(c:F as S2=.ok r (S++T))(j:r=.new ds\/ ∃l,r=#[l,1]/\↑2<=l/\(S++T)[l]? =#[ds,2])(h:vO ↑2 ds):zC n F rs S=#[ds,S,2]:=by
 have a:F (zK rs S).1 (zK rs S).2=.ok r (S++T):=by rw[m];exact c
 rcases j with rfl|⟨l,rfl,h1,h2⟩
 .exact gG b a h
 .exact ZE b a h1 h2 h
theorem Yd(neg)(p)(l)(S):QS neg p #[l,1] S=VG neg p #[l,1] S:=by
 unfold QS;split
 .rename_i h;cases h
 .rfl
def pO(neg)(c:S[l]? =#[ys,2])(hd:pd d=true)(h: ∀y∈ys,pd y=true/\EM y<40):QS neg (.val d) #[l,1] S=#[.bl (if neg=true then !decide (d∈ys)else decide (d∈ys)),S,1]:=by
 have b:itemsOf S #[l,1]=some ys:=by unfold itemsOf;exact lB c
 rw[Yd];unfold VG;rw[b];dsimp only;rw[An hd h];dsimp only
 have j:(ys.map λy=>decide (y=d)).any id=decide (d∈ys):=by
  rw[List.any_map];by_cases a:d∈ys
  .rw[dT0 a,List.any_eq_true];exact{d,a,by simp}
  .rw[dF0 a];rw[List.any_eq_false];intro y m;simp only[Function.comp,id,decide_eq_true_eq];rintro rfl;exact a m
 rw[j]
theorem gt_int(i j)(S):Q3 #[i,5] #[j,5] S=#[.bl (decide (j<i)),S,1]:=rfl
noncomputable abbrev UB:List Nat:=[118,97,114]
noncomputable abbrev IS:List Nat:=[105,115]
def gQ(d:MV):Prop:=(∃x,d=.tup [.str UB,.str x])\/ ∃v,((∃i,v=.int i)\/ ∃x,v=.str x)/\d=.tup [.str IS,v]
mutual
theorem gA{n:Nat}: ∀{d:MV},pd d=true->lo n d
 |.int i,_=>vZ n i
 |.str x,_=>OJ n x
 |.tup ds,h=>iZ (Dw (by rw[wV]at h;exact h))
 |.non,_=>IY n
 |.bl b,_=>ZD n b
 |.scr ds,h=>by unfold pd at h;cases h
 |.loc l,h=>by unfold pd at h;cases h
 |.typ t,h=>by unfold pd at h;cases h
theorem Dw{n:Nat}: ∀{ds:Q0},YI ds=true->vO n ds
 |[],_=>xO λd hd=>by simp at hd
 |d::ds,h=>by rw[xC,aE]at h;unfold vO;exact{gA h.1,Dw h.2}
end
def QD(h:gQ d):pd d=true/\EM d<=1:=by
 rcases h with⟨x,rfl⟩|⟨v,⟨i,rfl⟩|⟨x,rfl⟩,rfl⟩
 .exact{by rw[wV];rfl,by rw[iL,xZ,xZ,DF,DF];decide}
 .exact{by rw[wV];rfl,by rw[iL,xZ,xZ,MX];decide}
 .exact{by rw[wV];rfl,by rw[iL,xZ,xZ,DF,DF];decide}
def vn:MV->Option (List Nat)
 |.tup [.str w,.str x]=>if w=UB then some x else none
 |_=>none
def JZ(x):vn (.tup [.str UB,.str x])=some x:=by simp[vn]
def Ao(S):vK (.val (.str UB)) (.val (.str UB)) S=#[.bl true,S,1]:=by rw[eq_str,dT0 rfl]
def Qg(S):vK (.val (.str IS)) (.val (.str UB)) S=#[.bl false,S,1]:=by rw[eq_str,dF0 ↑15]
def zF(S)(o:MO):(S++[o])[↑2]? =some o:=by simp
def oI(S)(o a:MO):(S++[o]).set ↑2 a=S++[a]:=by simp
def MZ{fs:Ch}: ∀y∈fs.map MV.str,pd y=true/\EM y<40:=λd hd=>by refine(mM.mp hd).a λu _ a=>?_;subst a;exact{BQ u,by rw[DF];decide}
def NA{fs:Ch}:MV.str x∈fs.map MV.str↔x∈fs:={λh=>by refine(mM.mp h).a λu a e=>?_;cases e;exact a,λh=>mM.mpr (Z3 x h rfl)}
theorem Ap(a b)(S):yE #[[a,b],6] #[0,5] S=#[a,S,1]:=rfl
theorem Aq(a b)(S):yE #[[a,b],6] #[1,5] S=#[b,S,1]:=rfl
def SqM.itQ(h:SqM S m ds): ∃gs,(∀T,stay gs (S++T))/\ ∀T,itQ (.val m) (S++T)=.ok ⟨ds,gs⟩ (S++T):=by
 rcases h with rfl|⟨l,rfl,hS⟩
 .exact(Z3 ([]) (λT=>yU _) (λT=>rfl))
 .have a: ∀T,(S++T)[l]? =some _:=λT=>by rw[ã (gS.mp hS).1];exact hS
  refine Z3 ([_]) (λT=>yG (a T)) (λT=>?_);have e:srcOf (S++T) #[l,1]=some {true,ds,[(l,ds)]}:=by unfold srcOf;dsimp only;rw[a T]
  unfold L2.M.itQ;rw[e]
def Qh(h:(look kvs k).isSome=true):k∈kvs.map (·.1):=by unfold look at h;rw[Option.isSome_map]at h;obtain⟨p,a⟩:=ê.mp h;have b:=find?_some a;exact mM.mpr {p,Ļ a,ė b}
def tup2(a b)(S):yH [.val a,.val b] S=.ok #[[a,b],6] S:=FA (by simp)
theorem Dx(ds)(S):SR #[ds,6] S=.ok {ds,[]} S:=rfl
def lst1(a)(S):xN [.val a] S=#[[a],S,2]:=AA (by simp)
open Classical in
def qZ{β:Type}(ks:List β)(x:β):List β:=if x∈ks then ks else ks++[x]
def Ar(ks)(x y:β):y∈qZ ks x↔y∈ks\/y=x:=by
 unfold qZ;split
 .rename_i h;exact{.inl,λz=>z.elim id λe=>e▸h}
 .rw[ì,mS]
def Gp(h:ks.Nodup)(x:β):(qZ ks x).Nodup:=by
 unfold qZ;split
 .exact h
 .rename_i m;exact Ŀ.mpr {h,by simp,λa j b c=>by rw[mS.mp c];rintro rfl;exact m j}
theorem rV(ks)(x:β):(qZ ks x).length<=ks.length+1:=by
 unfold qZ;split
 .lia
 .rw[lA,lS];lia
def wA(ks xs:Ch):List (List Nat):=xs.foldl qZ ks
theorem BR: ∀ xs ks  y ,y∈wA ks xs↔y∈ks\/y∈xs
 |[],ks,y=>by simp[wA]
 |x::xs,ks,y=>by show y∈wA _ xs↔_;rw[BR xs,Ar,mC,or_assoc]
theorem NB: ∀ xs {ks},ks.Nodup->(wA ks xs).Nodup
 |[],_,h=>h
 |x::xs,_,h=>NB xs (Gp h x)
theorem BS: ∀ xs ks ,(wA ks xs).length<=ks.length+↑7
 |[],ks=>à _
 |x::xs,ks=>by
  have j:=BS xs (qZ ks x);have a:=rV ks x;show(wA _ xs).length<=_;rw[lC]
  lia
noncomputable def dT(ks:Ch):List (MV×MV):=ks.map λx=>(.str x,.bl true)
theorem Gq(ks):(dT ks).map (·.1)=ks.map MV.str:=by unfold dT;rw[Ă];rfl
def Ye(ks)(x):(look (dT ks) (.str x)).isSome=decide (x∈ks):=by
 by_cases h:x∈ks
 .rw[dT0 h];unfold look;rw[Option.isSome_map,List.find?_isSome];exact{_,mM.mpr ⟨x,h,rfl⟩,by simp}
 .rw[dF0 h]
  cases z:(look _ _).isSome with
  |false=>rfl
  |true=>
   have:=Qh z;rw[Gq]at this;exact absurd (NA.mp this) h
theorem Y9(ks)(x):putK (dT ks) (.str x) (.bl true)=dT (qZ ks x):=by
 unfold putK qZ;rw[Ye];by_cases h:x∈ks
 .rw[iP h,iP (dT0 h)];unfold dT;rw[Ă];refine ĳ λy _=>?_;show(if MV.str y=MV.str x then _ else _)=_;split<;>rfl
 .rw[iN h,iN (by rw[dF0 h];exact xF0)];unfold dT;rw[ù];rfl
theorem B1(ks):(dT ks).all (λp=>sM p.1)=true:=by unfold dT;rw[all_map,ü];intro x _;rfl
def Qi(h:S[l]? =#[kvs,7])(a:kvs.all (λp=>sM p.1)=true):lG S #[l,1]=some (l,kvs):=by unfold lG;dsimp only;rw[h];dsimp only;rw[iP a]
def Yf(h:S[l]? =#[dT ks,7])(a:ks.length<1000000)(x)(ρ):TB #[l,1] (.val (.str x)) (.bl true) ρ S=.ok ρ (S.set l (.dic (dT (qZ ks x)))):=by unfold TB;rw[Qi h (B1 ks)];dsimp only;rw[iP {rfl,by unfold dT;rw[lM];exact a},Y9]
def Qj(h:S[l]? =#[dT ks,7]):JF [#[l,1]] S=#[ks.map MV.str,S,2]:=by unfold JF;dsimp only;rw[Qi h (B1 ks)];dsimp only;rw[Gq]
theorem yW{α:Type}{f g:α->MV}(hs:stay gs S):
  ∀{ds:List α},(∀d∈ds, ∃j,gf (f d) ρb S=.ok j S/\cf j S=.ok true S/\ef j S=#[g d,S,1])->zV gf cf ef ρb gs (ds.map f) S=.ok (ds.map g) S
 |[],_=>rfl
 |d::ds,st=>by refine(st d mF0).c λj q u m=>?_;have e:=yW hs λd hd=>st d (mO _ hd);rw[ç];unfold zV;rw[q,yN,jO,u,yN,jO,m,yN,jO];unfold kM;rw[jO,iP hs,e];rfl
theorem Kt(ds:List α)(j:Nat):dM ds none (some  j )=ds.take j:=by
 unfold dM;rw[HT.sIx_nat,show HT.sIx ↑11 0 none=0 from rfl,drop_zero,Nat.sub_zero];by_cases h:j<=↑11
 .rw[min_eq_left h]
 .rw[min_eq_right #[],ĥ (à _),ĥ #[]]
theorem KA(ds:List α)(j:Nat):dM ds (some  j ) none=ds.drop j:=by
 unfold dM;rw[HT.sIx_nat];by_cases h:j<=↑11
 .rw[min_eq_left h,ĥ (by rw[Ĩ];exact à _)]
 .rw[min_eq_right #[],List.drop_of_length_le (à _),List.drop_of_length_le #[],List.take_nil]
theorem XB(ds)(l h)(S):DP #[ds,6] l h S=.ok #[dM ds l h,6] S:=rfl
noncomputable abbrev zN(k:Nat):MV:=.int (k:Int)
theorem Yh{n:Nat}(h:n<=1000)(S):iW [.val (.int  n )] S=.ok {(List.range n).map zN,[]} S:=by rw[EZ #[],ą]
theorem GD{α:Type}{f g:α->MV}{p:α->Bool}(hs:stay gs S):
  ∀{ds:List α},(∀d∈ds, ∃j,gf (f d) ρb S=.ok j S/\cf j S=.ok (p d) S/\ef j S=#[g d,S,1])->zV gf cf ef ρb gs (ds.map f) S=.ok ((ds.filter p).map g) S
 |[],_=>rfl
 |d::ds,st=>by
  refine(st d mF0).c λj m q u=>?_;have e:=GD hs λd hd=>st d (mO _ hd);rw[ç];unfold zV
  cases a:p d with
  |true=>
   rw[m,yN,jO,q,yN,jO,a,u,yN,jO];unfold kM;rw[jO,iP hs,e,List.filter_cons_of_pos a];rfl
  |false=>
   rw[m,yN,jO,q,yN,jO,a,iN xF0,iP hs,e,List.filter_cons_of_neg (by rw[a];exact xF0)]
def wW(S T)(o:MO):(S++o::T)[↑2]? =some o:=by simp
def XC(S T)(o a:MO):(S++o::T).set ↑2 a=S++a::T:=by simp
theorem nH(a:↑4=n)(b:F (zK rs S).1 (zK rs S).2=.ok #[l,1] S2)(c:↑2<=l)(h:S2[l]? =#[kvs,7]):zC n F rs S=.ok #[l,1] S2:=by
 unfold zC;rw[iP a,b];show hX S _ S2=_;unfold hX;dsimp only;split
 .rw[iN #[],h]
 .rfl
def HV(h:S[l]? =#[ds,2]):sH #[l,1] S=.ok (!ds.isEmpty) S:=by unfold sH;dsimp only;rw[h]
def Yj(a:S[l]? =#[ds,2])(hz:↑11+es.length<=1000000):Xb #[l,1] [.new es] S=#[.non,S.set l (.lst (ds++es)),1]:=by show RG #[l,1] S (λds=>if ↑11+es.length<=sizeLine then some _ else none)=_;unfold RG;dsimp only;rw[a];dsimp only;rw[iP (fits hz)]
noncomputable def abc:List Nat:=[97,98,99,100,101,102,103,104,105,106,107,108,109,110,111,112,113,114,115,116,117,118,119,120,121,122]
def DG(a:Ch)(n):vO n #[a,8]:=xO λd hd=>by refine(mM.mp hd).a λx _ b=>?_;subst b;exact OJ _ _
def Yk(c:S[l]? =#[ds,2])(a b):DP #[l,1] a b S=#[dM ds a b,S,2]:=by show(match xQ S _ with |some ds=>R.ok _ S|none=>.no)=_;rw[lB c]
abbrev VS(v:MV):Prop:=(∃i,v=.int i)\/ ∃x,v=.str x
def oK(h:VS v):pd v=true/\EM v<40:=by
 rcases h with⟨i,rfl⟩|⟨x,rfl⟩
 .exact{Qf i,by rw[MX];decide}
 .exact{BQ x,by rw[DF];decide}
theorem BU(h: ∀d∈t,VS d):pd (.tup t)=true/\EM (.tup t)<40:=by
 have:=MY (n:=0) λd hd=>by rcases h d hd with⟨_,rfl⟩|⟨_,rfl⟩<;>simp[EM]
 rw[wV,iL];exact{iM λd hd=>(oK (h d hd)).1,by lia}
theorem B2(h: ∀d∈t,VS d):pd (.tup [.int i,.tup t])=true/\EM (.tup [.int i,.tup t])<40:=by
 have:=MY (n:=0) λd hd=>by rcases h d hd with⟨_,rfl⟩|⟨_,rfl⟩<;>simp[EM]
 rw[wV,xC,xC,(BU h).1,iL,xZ,MX,xZ,QA,iL];exact{rfl,by lia}
theorem Qk(a:S[l]? =#[ds,2]):MG #[l,1] (.new []) S=#[.bl (!ds.isEmpty),S,1]:=by
 have e:RA S #[l,1]=some (.ls ds):=by show(xQ S _).map Vw.ls=_;rw[lB a];rfl
 unfold MG EW;rw[e]
 cases ds with
 |nil=>rfl
 |cons d ds=>rfl
theorem DH(a:Za)(k)(v:0<=k)(S): ∃c,zC 2 zX [.val (.scr (a.map MV.int)),#[k,5]] S=.ok #[c,5] S:=by
 have j:dQ [.val (.scr (a.map MV.int))] S=.ok #[a.length,5] S:=by show R.ok _ S=_;rw[lM]
 have o:jS [some (.scr (a.map MV.int)),#[k,0]] S=if decide (k<a.length)=true then(yE (.val (.scr (a.map MV.int))) #[k,5] S).bind λr u=>.ok (.ret r) u else #[[some (.scr (a.map MV.int)),#[k,0]],S,0]:=by unfold jS;exists 7,j,lt_int
 have m: ∀c,zX [.scr (a.map MV.int),.int k] S=.ok _ S-> ∃c,zC 2 zX [.val _,.val _] S=#[_,S,1]:=λc h=>{c,yT rfl h (vZ _ _) (λl=>by simp)}
 have hs:zE [Œ,ŕ] [.scr (a.map MV.int),.int k]=[some _,some _]:=rfl;by_cases b:k<a.length
 .obtain⟨d,hd⟩:=VO (xs:=a.map MV.int) v (by rw[lM];exact b);obtain⟨c,rfl⟩: ∃c,d=.int c:=Fq (P:=λd=> ∃c,d=.int c) (λe s=>by refine(mM.mp s).a λc _ y=>?_;subst y;exact⟨c,rfl⟩) hd;have q:yE (.val (.scr (a.map MV.int))) #[k,5] S=.ok #[c,5] S:=by show(match DV _ k with |some d=>R.ok (Er.val d) S|none=>.no)=_;rw[hd]
  refine m c ?_;rw[dT0 b,iP rfl,q,jO]at o;unfold zX fnJ cW;rw[hs,jP o];rfl
 .refine m 0 ?_;rw[dF0 b,iN xF0]at o;unfold zX fnJ cW;rw[hs,yI o];rfl
theorem pp30(S):Va #[10,5] #[30,5] S=.ok #[10 ^ 30,5] S:=rfl
theorem GE(S)(a b:MO):(S++[a,b])[↑2+1]? =some b:=by rw[æ #[],show ↑2+1 - ↑2=1 by lia];rfl
theorem Ql: ∀(fs:Ch) i ,(fs.map MV.str).eraseIdx i=(fs.eraseIdx i).map MV.str
 |[],_=>rfl
 |_::_,0=>rfl
 |c::fs,i+1=>congrArg _ (Ql fs i)
theorem Yl(a:S[l]? =#[ds,2])(b:0<=i)(c:i<↑11)(m:↑11<1000)(hd:ds[i.toNat]? =some d):Jm #[l,1] [#[i,5]] S=#[d,S.set l (.lst (ds.eraseIdx i.toNat)),1]:=by
 have j:QR ↑11 i=some i.toNat:=by unfold QR;rw[iP b,iP c]
 unfold Jm;dsimp only;rw[a];dsimp only;rw[iP {by lia,by lia},j];dsimp only;rw[hd]
theorem GF{B:Sto}(h:B.length=n):(B++L)[n+i]? =L[i]? :=by rw[æ #[],h,Nat.add_sub_cancel_left]
def Gr{B:Sto}(h:B.length=n):(B++L).set (n+i) o=B++L.set i o:=by rw[Ą _ _ (by lia),h,Nat.add_sub_cancel_left]
def zI{B:Sto}{m:Nat}(h:B[m]? =some o):(B++L)[m]? =some o:=by rw[ã (gS.mp h).1];exact h
def zA(h:F ρ S=#[ρ',S',0])(k:G ρ' S'=r):zD F G ρ S=r:=(yI h).trans k
theorem zW(h:X=.ok (.ret r) S):zG X=.ok r S:=by rw[h];rfl
def aK(I:Nat->Rho->Sto->Prop)(L)(m:L.length<=n)(h:I 0 ρ S)(st: ∀d∈L, ∀i,i<n-> ∀ρ S,I i ρ S-> ∃j ρ' S',gf d ρ S=.ok j S/\body j S=#[ρ',S',0]/\I (i+1) ρ' S'): ∃ρ' S',wO gf body [] L ρ S=#[ρ',S',0]/\I L.length ρ' S':=
 VL I (λi d hd ρ S h=>let ⟨_,ρ',S',a,b,c⟩:=st d (ò hd) i (ä (gS.mp hd).1 m) ρ S h;(Z2 (ρ') S' (by rw[a];exact b) (yU _) c)) h
theorem md{x:Int}(h:0<n:=by decide):0<=x % n/\x % n<n:={eN _ #[],eL _ h}
section
theorem aZ(j:gf d ρb S=.ok ρ1 S)(m:cf ρ1 S=.ok true S)(c:ef ρ1 S=#[y,S1,1])(b:stay gs S1)(a:zV gf cf ef ρb gs ds S1=.ok out S2):zV gf cf ef ρb gs (d::ds) S=.ok (y::out) S2:=by unfold zV;rw[j,yN,jO,m,yN,jO,c,yN,jO];unfold kM;rw[jO,iP b,a];rfl
def Gu(c:gf d ρb S=.ok ρ1 S)(j:cf ρ1 S=.ok false S)(a:stay gs S)(b:zV gf cf ef ρb gs ds S=.ok out S2):zV gf cf ef ρb gs (d::ds) S=.ok out S2:=by unfold zV;rw[c,yN,jO,j,yN,jO,iN xF0,iP a,b]
end
noncomputable abbrev Wl(S:Sto)(l:Nat)(x:Int):Sto:=S.set l (.lst [.int x])
def Qm(h:l<↑2)(x):(Wl S l x)[l]? =#[[.int x],2]:=Ĥ h
def BV(h:l≠m)(x):(Wl S l x)[m]? =S[m]? :=ħ h
def B3(S)(l)(x y):(Wl S l x).set l (.lst [.int y])=Wl S l y:=List.set_set ..
def nI(S)(l)(x):(Wl S l x).length=S.length:=Ć ..
def rW(S)(x):S++[.lst [.int x]]=Wl (S++[.lst []]) ↑2 x:=by simp[Wl]
def fF(h:l<↑2)(x)(T):Wl S l x++T=Wl (S++T) l x:=by unfold Wl;rw[ĵ _ _ h]
theorem XD(h:l<↑2)(x)(o o'):(Wl (S++[o]) l x).set ↑2 o'=Wl (S++[o']) l x:=by unfold Wl;rw[ĵ _ _ h,ĵ _ _ h];rw[Ą _ _ (by rw[Ć];exact à _),Ć,sub_self];rfl
def HW(h:l<↑2)(x)(o):(Wl (S++[o]) l x)[↑2]? =some o:=by rw[BV (å h)];simp
def Z7(x)(T):YW S (Wl S l x++T):=by
 refine{by rw[lA,nI];exact Ğ _ _,λm a=>?_};rw[ã (by rw[nI];exact a)];by_cases e:l=m
 .subst e;exact .inr {_,Qm a x,xO λe b=>by rw[mS.mp b];exact vZ _ _}
 .exact .inl (BV e x)
def Gv(y x)(T):YW (Wl S l y) (Wl S l x++T):=by have:=Z7 (S:=Wl S l y) (l:=l) x T;rw[show Wl _ l x=Wl S l x from B3 S l y x]at this;exact this
def Gx(S)(l)(x)(T)(h:n=↑2):(Wl S l x++T).take n=Wl S l x:=by rw[h,List.take_append_of_le_length (by rw[nI];exact à _),ĥ (by rw[nI];exact à _)]
def HX(b:↑4=n)(a:F (zK rs (Wl S l x)).1 (zK rs (Wl S l x)).2=#[d,Wl S l y++T,1])(h:lo ↑2 d)(hd: ∀l,d≠.loc l):zC n F rs (Wl S l x)=#[d,Wl S l y,1]:=by
 unfold zC;rw[iP b,a,yN,jO];unfold hX;rw[iP (Gv x y T)];have e:=Gx S l y T (nI S l x);have h':lo (Wl S l x).length d:=by rw[nI];exact h
 cases d with
 |loc m=>exact absurd rfl (hd m)
 |_=>dsimp only;exact qq (iP h') (qq e rfl)
theorem Au(c:↑4=n)(a:F (zK rs (Wl S l x)).1 (zK rs (Wl S l x)).2=.ok #[m,1] (Wl S l y++T))(j:↑2<=m)(b:(Wl S l y++T)[m]? =#[ds,2])(h:vO ↑2 ds):zC n F rs (Wl S l x)=#[ds,Wl S l y,2]:=by unfold zC;rw[iP c,a,yN,jO];unfold hX;rw[iP (Gv x y T)];dsimp only;rw[nI,iN #[],b];dsimp only;rw[iP h,Gx S l y T rfl]
section
variable{S:Sto}{x:Int}
theorem Av(q:l<↑2)(o:0<n)(hd: ∀ a  S ,YY #[a,5] #[n,5] S=.ok #[a / n,5] S):zC 2 zL [#[l,1],#[n,5]] (Wl S l x)=.ok #[x % n,5] (Wl S l (x / n)):=by
 have hs:zE KZ [.loc l,.int n]=[some _,some _,none]:=rfl;have c:DV [MV.int x] 0=some _:=rfl;have b:=Qm q x;have j:aC [#[l],#[n,0],none] (Wl S l x)=#[[#[l],#[n,0],#[x % n,0]],Wl S l x,0]:=by unfold aC;exists 7,IZ b c,mod_lit o
 have m:aD [#[l],#[n,0],#[x % n,0]] (Wl S l x)=#[[#[l],#[n,0],#[x % n,0]],Wl S l (x / n),0]:=by unfold aD;simp? [IZ b c,hd,MU,Ak b (show QR [MV.int x].length 0=some 0 from rfl)];exact congrArg _ (B3 S l x _)
 refine HX (T:=[]) rfl ?_ (vZ _ _) (λl=>by simp);show zL [.loc l,.int n] (Wl S l x)=_;unfold zL fnJ BM;rw[hs,yI j,yI m,aN];rfl
def xM(c:l<↑2)(a:0<n:=by decide)(b:n<1073741824:=by decide):zC 2 zL [#[l,1],#[n,5]] (Wl S l x)=.ok #[x % n,5] (Wl S l (x / n)):=Av c a (VN a b)
theorem XE(b:l<↑2): ∃y z,y.length<=8/\zC 1 aX [#[l,1]] (Wl S l x)=#[.str y,Wl S l z,1]:=by obtain⟨_,_,e,y,z,k,rfl,rfl,m⟩:=aK (gf:=zU 3) (body:=aF) (n:=9) (λi a j=> ∃(y:Db)(z:Int)(k:R0),a=[#[l],#[abc,4],#[y,4],k]/\j=Wl S l z/\y.length=i) ((List.range (1+x % 8).toNat).map zN) (by rw[lM,ú];lia) (Zj ([]) _ none ⟨rfl,rfl,rfl⟩) (λd _ i hi a v ⟨y,z,k,u,q,s⟩=>by subst u q;obtain⟨c,o⟩:=VO (xs:=abc) (md ↑15).1 (md (x:=z) (n:=26)).2;refine{_,_,_,rfl,?_,y++[c],z / 26,some d,rfl,rfl,by simp[s]};unfold aF eV;simp? [xM (n:=26) b,ix_str (by rw[ý];decide) o];rw[add_str (fits (by rw[lS];lia))];rfl);refine ZX y z (by simp at m;lia) (HX (T:=[]) rfl ?_ (OJ _ _) (λl=>by simp));rw[aN];show zG (BN [some _,none,none,none] _)=_;refine zW (zA rfl (zA rfl (zA (ρ':=[#[l],#[abc,4],some _,k]) ?_ rfl)));unfold qI;simp? [xM (n:=8) b];rw[EZ #[],jO];exact e
end
def nN(c)(S): ∃t,zC 1 yQ [#[c,5]] S=#[[.int t],S,2]:=by
 obtain⟨t,h⟩: ∃t,aB [#[c,0],none,none,none,none,none] S=.ok (.ret (.new [.int t])) S:=by
  unfold aB;have u:gX [#[c,0],none,none,none,none,none] S=#[[#[c,0],#[c / 2,0],none,none,none,none],S,0]:=by unfold gX;exists 7,VN ↑15 ↑15
  by_cases q:c % 2=0
  .refine{c / 2,zA u (jP ?_)};unfold gY;exists 7,mod_lit ↑15,dT0 q
  .obtain⟨_,_,e,n,t,k,o,rfl,rfl⟩:=aK (gf:=zU 4) (body:=gW) (n:=16) (λ_ b S'=> ∃(n t:Int)(k o:R0),b=[#[c,0],#[c / 2,0],#[n,0],#[t,0],k,o]/\S=S') ((List.range 16).map zN) ↑15 (ZB _ 0 none none ⟨rfl,rfl⟩) (λd hd i _ b A ⟨n,t,k,o,y,w⟩=>by
    subst y w;refine(mM.mp hd).a λj _ B=>?_;subst B;have s:=md (x:=n * 48271+7919 * (j:Int)+11) (n:=2147483647);obtain⟨m,a⟩: ∃m,m=(n * 48271+7919 * (j:Int)+11) % 2147483647:={_,rfl}
    rw[<-a]at s;refine{_,_,_,rfl,?_,m,t * 2147483587+m * m % 2147483629 * 69621 % 2147483587,some (zN j),#[m * m % 2147483629,0],rfl,rfl};unfold gW;apply zA
    .unfold cX;simp? [MK (show -(2 ^ 64)<(48271:Int)/\(48271:Int)<2 ^ 64 by decide),ZG (show -(2 ^ 64)<(7919:Int)/\(7919:Int)<2 ^ 64 by decide),mod_lit (show(0:Int)<2147483647 by decide), <-a];rfl
    apply zA
    .unfold cY;exists 7,mul_31 {s.1,by omega},mod_lit ↑15
    unfold cZ;exists 7,MK ↑15,MK ↑15,mod_lit ↑15)
   refine{t,zA u ?_};apply zA
   .unfold gY;simp? [mod_lit (show(0:Int)<2 by decide),dF0 q,fT0,iF];rfl
   apply zA
   .unfold eR;exists 7,mod_lit ↑15
   refine zA rfl (zA (ρ':=[#[c,0],#[c / 2,0],#[n,0],#[t,0],k,o]) (S':=S) ?_ ?_)
   .unfold eT;simp? [EZ (j:=16) ↑15];exact e
   unfold eU;simp? [jO]
 exact{t,xL rfl rfl (by rw[aN];exact zW h) (.inl rfl) (xO λe v=>by rw[mS.mp v];exact vZ _ _)}
noncomputable abbrev PP(M:Int)(l m:Nat)(k w v:R0):Rho:=[#[l],#[M,0],#[m],k,w,v]
section
def po3{v:MV}(a:l<↑2)(b:VS v): ∃j z,VS j/\gZ (PP M l m k #[n,0] (some v)) (Wl S l x)=#[PP M l m k #[n,0] (some j),Wl S l z,0]:=by
 unfold gZ;simp? [pp30,ZG (show -_<(2:Int)/\_<2 ^ 64 by decide),Av a (show _<2 * 10 ^ 30 - 1 by decide) (Yc (by decide+kernel))];split
 .exact(ZX _ _ (.inl {_,rfl}) rfl)
 .exact(ZX v x b rfl)
def po4{v:MV}(b:l<↑2)(c:VS v): ∃j z,VS j/\bA (PP M l m k #[n,0] (some v)) (Wl S l x)=#[PP M l m k #[n,0] (some j),Wl S l z,0]:=by
 refine(XE (x:=x) b).d λy z _ a=>?_;unfold bA;simp? [a];split
 .exact(ZX _ _ (.inr ⟨y,rfl⟩) rfl)
 .exact(ZX v x c rfl)
theorem Ku(u:l<↑2)(o: ∀d∈vs,VS d)(K:↑9<1000): ∃j I G z,(∀d∈j,VS d)/\j.length<=↑9+1/\1<=j.length/\aG (PP M l ↑2 k w v) (Wl (S++[.lst vs]) l x)=#[PP M l ↑2 k I G,Wl (S++[.lst j]) l z,0]:=by
 have a:l<(S++[MO.lst vs]).length:=by rw[lA];lia
 obtain⟨J,L,s,E⟩:=po3 (M:=M) (k:=k) a (.inl {_,rfl});obtain⟨m,c,b,A⟩:=po4 (M:=M) (k:=k) a s;have q:(Wl _ l c)[↑2]? =#[vs,2]:=HW u c _
 obtain⟨j,H,D,F,C⟩: ∃j,(∀d∈j,VS d)/\j.length<=↑9+1/\1<=j.length/\bB (PP M l ↑2 k #[x % 4,0] (some m)) (Wl (S++[.lst vs]) l c)=.ok _ (Wl (S++[.lst j]) l c):=by
  unfold bB;simp? [pO true q (oK b).1 λy B=>oK (o y B),xD q,wM q #[],XD u];by_cases h:m∈vs
  .exact{vs,o,le_succ _,List.length_pos_of_mem h,by rw[dT0 h];rfl}
  .refine{vs++[m],λd hd=>?_,by simp,by simp,by rw[dF0 h];rfl};rcases ì.mp hd with hd|hd
   .exact o d hd
   .rw[mS.mp hd];exact b
 refine ZB j (#[x % 4,0]) (some m) c {H,D,F,?_};unfold aG;apply zA
 .unfold eW;exists 7,xM (n:=4) a
 apply zA
 .unfold eX;exists 7,xM a
 exact zA E (zA A C)
end
theorem Z8(o:l<↑2)(x)(H:1<=M)(E:M<=4): ∃vs z,(∀d∈vs,VS d)/\1<=↑9/\↑9<=4/\aY [.loc l,zN M] (Wl S l x)=.ok #[↑2,1] (Wl (S++[.lst vs]) l z):=by
 obtain⟨_,_,e,vs,z,k,w,v,rfl,rfl,a,m,C⟩:=aK (gf:=zU 3) (n:=M) (λi j S'=> ∃(vs:Q0)(z:Int)(k w v:R0),j=PP M l ↑2 k w v/\S'=Wl (S++[.lst vs]) l z/\(∀d∈vs,VS d)/\↑9<=i/\(i=0\/1<=↑9)) ((List.range M).map zN) (by simp) (Yi ([]) x none none none {rfl,rfl,(by simp),à _,.inl rfl}) (λd _ i hi j G z0=>by refine z0.q λvs z k w v z0=>?_;refine z0.p λq y a m _=>?_;subst q y;obtain⟨c,D,s,B,b,F,A,u⟩:=Ku o a #[];exact{_,_,_,rfl,u,c,B,_,D,s,rfl,rfl,b,by lia,.inr A});rw[lM,ú]at m C;refine Zo vs z a (by lia) (by lia) ?_;unfold aY fnJ;refine zW ?_;apply zA
 .unfold qK;simp? [nI,fF o];rfl
 refine zA (ρ':=PP M l ↑2 k w v) (S':=Wl (S++[.lst vs]) l z) ?_ ?_
 .unfold qL;exists 7,Yh (by omega),e
 unfold qN;exists 7,rfl
theorem Ym(t)(S): ∃vs,(∀d∈vs,VS d)/\1<=↑9/\↑9<=4/\zC 2 aY [.new [.int t],#[4,5]] S=#[vs,S,2]:=by
 have a:↑2<(S++[MO.lst []]).length:=by simp
 refine(Z8 a t (M:=4) ↑15 ↑15).l λvs z b c j e=>?_;refine{vs,b,c,j,xL (T:=[.lst [.int z],.lst vs]) rfl (show zK [.new [.int t],.val _] S=([.loc ↑2,.int 4],S++[.lst [.int t]])from rfl) ?_ (.inr (Z0 _ rfl (le_succ _) (GE S _ _))) ((xO λd hd=>gA (oK (b d hd)).1))};rw[rW];show aY [.loc ↑2,zN 4] _=_;rw[e,lA, <-fF a, <-rW,aA];rfl
noncomputable abbrev T4(l m:Nat)(k w:R0):Rho:=[#[l],#[m],k,w]
theorem Qn(j:l<↑2)(u:ts.length<1000):
  ∃p q z,(1<=p.1/\p.1<=4/\0<=p.2/\p.2<=p.1)/\bC (T4 l ↑2 k w) (Wl (S++[.lst (ts.map tbl)]) l x)=#[T4 l ↑2 k q,Wl (S++[.lst ((ts++[p]).map tbl)]) l z,0]:=by
 have b:l<(S++[MO.lst (ts.map tbl)]).length:=by rw[lA];lia
 obtain⟨a,m⟩: ∃a,a=1+x % 3:={_,rfl}
 have s:=md (x:=x) (n:=3);have o:=md (x:=x / 3) (show 0<a+1 by lia);have c: ∀z,(Wl _ l z)[↑2]? =#[ts.map tbl,2]:=λz=>HW j z _;refine YX (a,x / 3 % _) (#[a,0]) (x / 3 / (a+1)) {by show 1<=a;lia,by show a<=4;lia,o.1,by show x / 3 % _<=a;lia} ?_;unfold bC;apply zA
 .unfold dA;simp? [xM (n:=3) b, <-m];rfl
 unfold dB;simp? [xD (c _),xM b (show 0<a+1 by lia) #[],wM (c _) (by rw[lM];lia),XD j];rw[ù];rfl
theorem Kv(t)(S): ∃ts,Se ts/\zC 1 qP [.new [.int t]] S=#[ts.map tbl,S,2]:=by
 have a:↑2<(S++[MO.lst []]).length:=by simp
 have C:=md (x:=t) (n:=3)
 obtain⟨_,_,e,ts,z,k,w,rfl,rfl,b,c⟩:=aK (gf:=zU 2) (n:=3) (λi j S'=> ∃(ts:Tk)(z:Int)(k w:R0),j=T4 ↑2 (↑2+1) k w/\S'=Wl (S++[.lst []]++[.lst (ts.map tbl)]) ↑2 z/\(∀p∈ts,1<=p.1/\p.1<=4/\0<=p.2/\p.2<=p.1)/\ts.length=i) ((List.range (1+t % 3).toNat).map zN) (by simp;lia) (ZB ([]) (t / 3) none none {rfl,rfl,(by simp),rfl}) (λd _ i hi j D z0=>by
  refine z0.j λts z k w z0=>?_;refine z0.g λs v b c=>?_;subst s v;obtain⟨p,A,y,B,o⟩:=Qn (ts:=ts) (w:=w) a #[];rw[lA]at o;refine{_,_,_,rfl,o,ts++[p],y,some d,A,rfl,rfl,λq u=>?_,by simp[c]};rcases ì.mp u with h|h
  .exact b q h
  .rw[mS.mp h];exact B)
 rw[lM,ú]at c;refine{ts,{by omega,by omega,b},xL (T:=[.lst [.int z],.lst _]) rfl rfl ?_ (.inr (Z0 _ rfl (le_succ _) (GE S _ _))) (xO λd hd=>by refine(mM.mp hd).a λp _ E=>?_;subst E;exact iZ (xO λe m=>by simp at m;rcases m with rfl|rfl<;>exact vZ _ _))};show zG _=_;rw[rW,show S++[MO.lst [.int z],.lst _]=Wl _ ↑2 z by rw[<-fF a, <-rW,aA];rfl];refine zW ?_;unfold qO;refine zA (ρ':=T4 ↑2 (↑2+1) none none) (S':=Wl (S++[.lst []]++[.lst []]) ↑2 t) ?_ (zA (ρ':=T4 ↑2 (↑2+1) k w) (S':=Wl (S++[.lst []]++[.lst (ts.map tbl)]) ↑2 z) ?_ ?_)
 .unfold eY;simp? [nI,fF a];rw[lA];rfl
 .unfold eZ;exists 7,xM (n:=3) (by simp),EZ (by lia),e
 unfold fA;exists 7,rfl
noncomputable abbrev N5(l m:Nat)(b:Db)(k w:R0):Rho:=[#[l],#[b,4],#[m],k,w]
theorem adds(h:x.length+y.length<=1000)(S):kL (.val (.str x)) (.val (.str y)) S=#[.str (x++y),S,1]:=add_str (fits #[])
theorem Yn(u:l<↑2)(E:us.length<1000)(s:b∈us)(F:b.length<=6)(B:j<2):
  ∃y G z,y≠b/\jL (N5 l ↑2 b (some (zN j)) w) (Wl (S++[.lst #[us,8]]) l x)=#[N5 l ↑2 b (some (zN j)) G,Wl (S++[.lst ((us++[y]).map MV.str)]) l z,0]:=by
 have q:l<(S++[MO.lst #[us,8]]).length:=by rw[lA];lia
 refine(XE (x:=x) q).d λy z _ A=>?_;have m:(Wl _ l z)[↑2]? =#[us.map MV.str,2]:=HW u z _
 obtain⟨r,C,o⟩: ∃r,DV [MV.str ([98]++b),.str ([98]++b++[97])] (j:Int)=#[r,4]/\r≠b:=by
  match j,B with
  |0,_=>exact{_,rfl,λz=>by have:=congrArg List.length z;simp at this}
  |1,_=>exact{_,rfl,λz=>by have:=congrArg List.length z;simp at this;lia}
 obtain⟨a,D,v⟩: ∃a,a≠b/\jU (N5 l S.length b (some (zN j)) #[y,4]) (Wl (S++[.lst #[us,8]]) l z)=#[N5 l ↑2 b _ #[a,4],_,0]:=by
  unfold jU;simp? [pO false m (BQ y) MZ,adds (x:=[98]) (y:=b) (by simp only[lS];lia),adds (x:=[98]++b) (y:=[97]) (by simp only[lA,lS];lia),U3 C,fT0,iF];split
  .exact⟨r,o,rfl⟩
  .rename_i c;exact{y,λz=>c (dT0 (ľ (z▸s))),rfl}
 refine YX a (#[a,4]) z D ?_;unfold jL;apply zA
 .unfold nB;exists 7,A
 refine zA v ?_;unfold nE;simp? [xD m,wM m (by rw[lM];lia),XD u];rw[ù];rfl
theorem Qo(t)(S): ∃ys:List (List Nat),(∃a b c,ys=[a,b,c]/\a≠b/\a≠c/\a.length<=6)/\zC 1 uU [.new [.int t]] S=#[ys.map MV.str,S,2]:=by
 have m:↑2<(S++[MO.lst []]).length:=by simp
 refine(XE (S:=S++[.lst []]) (l:=↑2) (x:=t) m).d λw z hw M=>?_;have E:dE [#[↑2],none,none,none,none] (Wl (S++[.lst []]) ↑2 t)=#[[#[↑2],#[w.take 6,4],none,none,none],Wl (S++[.lst []]) ↑2 z,0]:=by unfold dE;simp? [M,cut_str (fits (show w.length<=1000000 by lia)),show dM w none (some 6)=w.take 6 from Vz _ _ ↑15]
 have C:(w.take 6).length<=6:=by rw[lT];exact Nat.min_le_left _ _
 generalize w.take 6=b at C E;have A:dF [#[↑2],#[b,4],none,none,none] (Wl (S++[.lst []]) ↑2 z)=if decide (z % 2=0)=true then .ok (.ret (.new [.str b,.str (b++[97]),.str ([98]++b)])) (Wl (S++[.lst []]) ↑2 (z / 2))else #[[#[↑2],#[b,4],none,none,none],Wl (S++[.lst []]) ↑2 (z / 2),0]:=by unfold dF;simp? [xM (n:=2) m,adds (x:=b) (y:=[97]) (by simp only[lS];lia),adds (x:=[98]) (y:=b) (by simp only[lS];lia)]
 by_cases h:z % 2=0
 .rw[dT0 h,iP rfl]at A;refine{[b,b++[97],[98]++b],(Ze b _ _ rfl (λz=>by have:=congrArg List.length z;simp at this) (λz=>by have:=congrArg List.length z;simp at this) C),xL (T:=[.lst [.int (z / 2)]]) rfl rfl ?_ (.inl rfl) (DG _ _)};rw[rW,rW];exact zW (zA E (jP A))
 .rw[dF0 h,iN xF0]at A
  obtain⟨_,_,e,ys,s,k,v,rfl,rfl,us,D,B,o⟩:=aK (gf:=zU 3) (body:=jL) (n:=2) (λi F S'=> ∃(ys:Ch)(z:Int)(k w:R0),F=N5 S.length (S.length+1) b k w/\S'=Wl (S++[.lst []]++[.lst #[ys,8]]) S.length z/\ ∃us:List (List Nat),ys=b::us/\us.length=i/\ ∀u∈us,u≠b) ((List.range 2).map zN) (by decide) {[b],z / 2,none,none,rfl,rfl,[],rfl,rfl,λu h=>(nomatch h)} (λd hd i hi F Q z0=>by
   refine z0.j λys z k v z0=>?_;refine z0.f λH N z0=>?_;refine z0.c λus I B o=>?_;subst H N I;refine(mM.mp hd).a λj P U=>?_;subst U;refine(Yn (S:=S++[.lst []]) (l:=↑2) (x:=z) (b:=b) (us:=b::us) (j:=j) (w:=v) m (by rw[lC];lia) (.head _) C (ē.mp P)).m λy K J L G=>?_;rw[lA]at G
   exact{_,_,_,rfl,G,b::us++[y],J,some (zN j),K,rfl,rfl,us++[y],rfl,by simp[B],λu q=>by
    rcases ì.mp q with q|q
    .exact o u q
    .rw[mS.mp q];exact L})
  have O: ∃a b c,ys=[a,b,c]/\a≠b/\a≠c/\a.length<=6:=by
   rw[lM,ú]at B
   match us,D,B,o with
   |[u,v],D,_,o=>exact Ze b u v D ((o u (by simp)).symm) ((o v (by simp)).symm) C
  refine Z3 ys O (xL (T:=[.lst [.int s],.lst #[ys,8]]) rfl rfl ?_ (.inr (Z0 _ rfl (le_succ _) (GE S _ _))) (DG _ _));rw[rW,show S++[MO.lst [.int s],.lst #[ys,8]]=Wl (S++[.lst []]++[.lst #[ys,8]]) ↑2 s by rw[<-fF m, <-rW,aA];rfl];refine zW (zA E (zA A (zA (ρ':=N5 ↑2 (↑2+1) b none none) (S':=Wl (S++[.lst []]++[.lst ([b].map MV.str)]) ↑2 (z / 2)) ?_ (zA (ρ':=N5 ↑2 (↑2+1) b k v) (S':=Wl (S++[.lst []]++[.lst #[ys,8]]) ↑2 s) ?_ ?_))))
  .unfold mX;simp? [nI,fF m];rw[lA];rfl
  .unfold mY;exists 7,EZ (j:=2) ↑15,e
  unfold mZ;simp? [jO]
abbrev Rw:=Int×List MV
noncomputable def zY(r:Rw):MV:=.tup [.int r.1,.tup r.2]
set_option bootstrap.genMatcherCode true in
local macro_rules
 |`(#[$x,9])=>`(($x).map zY)
noncomputable def Kw(ts:Tk)(t:Int):Nat:=((ts[t.toNat]?).map (·.1.toNat)).getD 0
def TmP(ys:Ch)(vs:Q0)(d:MV):Prop:=(∃y∈ys,d=.tup [.str UB,.str y])\/ ∃v∈vs,d=.tup [.str IS,v]
abbrev TT(ts:Tk):MV:=.tup (ts.map tbl)
def zES(ts:Tk)(ys:Ch)(vs:Q0)(a:Rw):Prop:=a.2.length=Kw ts a.1/\(∀d∈a.2,TmP ys vs d)/\0<=a.1/\a.1<ts.length
def Ky(ts:Tk)(vs:Q0)(r:Rw):Prop:=(0<=r.1/\r.1<ts.length)/\r.2.length=Kw ts r.1/\ ∀c∈r.2,c∈vs
theorem rX(o)(S):bW [.new o] S=.ok #[o,6] S:=rfl
def TmP.ok(a: ∀v∈vs,VS v)(h:TmP ys vs d):gQ d:=by
 rcases h with⟨y,_,rfl⟩|⟨v,hv,rfl⟩
 .exact .inl ⟨y,rfl⟩
 .exact .inr (Z3 v (a v hv) rfl)
theorem Qp(j:Se ts)(n): ∃p,(1<=p.1/\p.1<=4)/\(Kw ts (n %  ts.length ):Int)=p.1/\ ∀S:Sto,yE (.val (TT ts)) #[n %  ts.length ,5] S=#[tbl p,S,1]:=by
 have o:=j.1;have m:=eN n (show(ts.length:Int)≠0 by lia);have q:=eL n (show(0:Int)<ts.length by lia);obtain⟨k,b⟩: ∃k:Nat,n % (ts.length:Int)=k:={(n % (ts.length:Int)).toNat,by lia}
 have a:k<ts.length:=by lia
 have c:=j.2.2 _ (Ľ a);refine Z0 _ {c.1,c.2.1} ?_ (λS=>?_)
 .unfold Kw;rw[b,ą,gE a];show((ts[k].1.toNat:Nat):Int)=ts[k].1
  lia
 .rw[b];exact ix_tup ((L2.atI_nat (by rw[ë,gE a];rfl)))
theorem XF{P:MV->Prop}(st: ∀ d  x , ∃j y z,gf d ρb (Wl S l x)=.ok j (Wl S l x)/\cf j (Wl S l x)=.ok true (Wl S l x)/\ef j (Wl S l x)=#[y,Wl S l z,1]/\P y):
  ∀ L  x , ∃out z,out.length=L.length/\(∀d∈out,P d)/\zV gf cf ef ρb [] L (Wl S l x)=.ok out (Wl S l z)
 |[],x=>(Z2 ([]) x rfl (by simp) rfl)
 |d::L,x=>by refine(st d x).h λj y q k=>k.g λB m u v=>?_;refine(XF st L q).b λout z o b c=>?_;refine Z2 _ z (by rw[lC,lC,o]) (λe a=>(mC.mp a).elim (λz=>z▸v) (b e)) ?_;unfold zV;rw[B,yN,jO,m,yN,jO,u,yN,jO];unfold kM;rw[jO,iP (yU _),c];rfl
section
theorem XG(j:l<↑2)(m:l≠p)(o:S[p]? =#[ds,2])(q:1<=↑11)(s:↑11<=1000)(x): ∃d∈ds, ∃z,(((dQ [#[p,1]] (Wl S l x)).bind λn S=>zC 2 zL [#[l,1],n] S).bind λi S=>yE #[p,1] i S)=#[d,Wl S l z,1]:=by
 have b:=λz=>(BV m z).trans o;have a:(0:Int)<(ds.length:Int):=by lia
 obtain⟨v,c⟩:=VO (eN _ #[]) (eL _ a);refine{v,Fq (λ_ h=>h) c,x / (ds.length:Int),?_};rw[wF (b x),jO,xM j a #[],jO,IZ (b _) c]
theorem Yo(c:l<↑2)(C:l≠p)(B:l≠q)(w:S[p]? =#[vs,2])(s:S[q]? =#[ys.map MV.str,2])(o: ∀d∈vs,VS d)(I:1<=↑9)(L:↑9<=4)(j:1<=ys.length)(K:ys.length<=10)(x):
  ∃u z,TmP ys vs u/\zC 3 BP [#[l,1],#[q,1],#[p,1]] (Wl S l x)=#[u,Wl S l z,1]:=by
 obtain⟨v,J,D,a⟩:=XG c C w I #[] _;obtain⟨d,hd,F,b⟩:=XG c B s (by rw[lM];exact j) (by rw[lM];lia) _;refine(mM.mp hd).a λy H k=>?_;subst k;by_cases h:x % 4=0
 .have m:wU [#[l],#[q],#[p]] (Wl S l x)=.ok (.ret #[[.str IS,v],6]) (Wl S l D):=by have E: ∀z,(Wl S l z)[p]? =some _:=λz=>(BV C z).trans w;rw[wF (E _),jO]at a;unfold wU;simp? [xM (n:=4) c,h,wF (E _)];rw[a];exists 7,rfl
  have ok:TmP ys vs _:=.inr ⟨v,J,rfl⟩;refine ZX _ D ok (HX (T:=[]) rfl ?_ (gA (QD (ok.ok o)).1) (λl=>by simp));show zG (bU [some _,some _,some _] (Wl S l x))=_;unfold bU;rw[jP m,aN];rfl
 .have m:wU [#[l],#[q],#[p]] (Wl S l x)=#[[#[l],#[q],#[p]],Wl S l (x / 4),0]:=by unfold wU;exists 7,xM c,h,decide_false,fT0,iF
  have G:aH [#[l],#[q],#[p]] (Wl S l (x / 4))=.ok (.ret #[[.str UB,.str y],6]) (Wl S l F):=by have A: ∀z,_[q]? =some _:=λz=>(BV B z).trans s;rw[wF (A _),jO]at b;unfold aH;simp? [wF (A _)];rw[b];exists 7,rfl
  have ok:TmP ys vs _:=.inl ⟨y,H,rfl⟩;refine ZX _ F ok (HX (T:=[]) rfl ?_ (gA (QD (ok.ok o)).1) (λl=>by simp));show zG (bU [some _,some _,some _] (Wl S l x))=_;unfold bU;rw[yI m,G,aN];rfl
theorem Z9(B:l<↑2)(y:l≠p)(w:S[p]? =#[vs,2])(C: ∀d∈vs,VS d)(K:1<=↑9)(M:↑9<=4)(m:Se ts)(x):
  ∃r z,Ky ts vs r/\zC 3 GB [#[l,1],.val (TT ts),#[p,1]] (Wl S l x)=#[zY r,Wl S l z,1]:=by
 have F:=m.1;have L:=m.2.1;have q: ∀z,dQ [.val (TT ts)] (Wl S l z)=.ok _ _:=λz=>by rw[DE,lM]
 refine(Qp m x).c λD J hw b=>?_;obtain⟨t,a⟩: ∃t,t=x % (ts.length:Int):={_,rfl}
 rw[<-a]at hw b;have G:iI [#[l],some (TT ts),#[p],none] (Wl S l x)=#[[#[l],some (TT ts),#[p],#[t,0]],Wl S l (x / (ts.length:Int)),0]:=by unfold iI;simp? [q,xM (n:=(ts.length:Int)) B #[] #[]];rw[a]
 obtain⟨out,z,u,s,j⟩:=XF (S:=S) (l:=l) (gf:=zU 0) (cf:=mT) (ef:=dC) (ρb:=[none,some _,#[p]]) (λd x=>by obtain⟨v,H,z,e⟩:=XG B y w K #[] x;refine{_,v,z,rfl,rfl,?_,H};have A: ∀z,_[p]? =some _:=λz=>(BV y z).trans w;rw[wF (A _),jO]at e;unfold dC;simp? [wF (A x)];exact e) _ _;rw[lM,ú]at u;have I: ∀S,yE (.val (tbl D)) #[0,5] S=.ok #[(Kw ts t:Int),5] S:=λS=>by rw[hw];rfl
 have E:iK [#[l],some (TT ts),#[p],#[t,0]] (Wl S l (x / (ts.length:Int)))=.ok (.ret (.val (zY (t,out)))) (Wl S l z):=by unfold iK;simp? [b,I,Yh (show Kw ts t<=1000 by lia),lM,ú,show Kw ts t<1000000 by lia];rw[show IT 1 [0,2] [some _,some _,some _,some _]=[none,some _,some _]from rfl,j];exists 7,rX
 have o:pd (zY (t,out))=true:=by unfold zY;rw[wV,xC,xC,wV,iM λc j=>(oK (C c (s c j))).1];rfl
 refine ZX _ z {{by rw[a];exact eN _ #[],by rw[a];exact eL _ #[]},u,s} (HX (T:=[]) rfl ?_ (gA o) (λl=>by simp[zY]));show zG (uQ [some _,some _,some _,none] (Wl S l x))=_;unfold uQ;rw[yI G,E,aN];rfl
end
abbrev A8(ts:Tk)(M l p q m:Nat)(k t:R0):Rho:=[#[l],some (TT ts),#[q],#[p],some (zN M),#[m],k,t]
section
theorem Kz(C:l<↑2)(E:l≠p)(F:l≠q)(N:S[p]? =#[vs,2])(J:S[q]? =#[ys.map MV.str,2])(I: ∀d∈vs,VS d)(P:1<=↑9)(Q:↑9<=4)(v:1<=ys.length)(s:ys.length<=10)(w:Se ts)(W:as.length<100)(x)(k t0):
  ∃a t' z,zES ts ys vs a/\dD (A8 ts M l p q ↑2 k t0) (Wl (S++[.lst #[as,9]]) l x)=#[A8 ts M l p q ↑2 k t',Wl (S++[.lst ((as++[a]).map zY)]) l z,0]:=by
 have c:l<(S++[MO.lst #[as,9]]).length:=by rw[lA];lia
 have y: ∀{j:Nat}{o:MO},S[j]? =some o->(S++[MO.lst #[as,9]])[j]? =some o:=λh=>by rw[ã (gS.mp h).1];exact h
 have B: ∀z,(Wl _ l z)[↑2]? =#[as.map zY,2]:=λz=>HW C z _;have O:=w.1;have U:=w.2.1;have u: ∀Z,dQ [.val (TT ts)] Z=.ok _ Z:=λZ=>by rw[DE,lM]
 refine(Qp w x).c λT H hw m=>?_;obtain⟨t,b⟩: ∃t,t=x % (ts.length:Int):={_,rfl}
 rw[<-b]at hw m;obtain⟨out,z,A,D,K⟩:=XF (gf:=zU 0) (cf:=dY) (ef:=jT) (ρb:=[none,some _,some _,some _]) (λd x=>by refine(Yo c E F (y N) (y J) I P Q v s x).d λL z h e=>?_;refine{_,L,z,rfl,rfl,?_,h};unfold jT;exists 7,e) ((List.range (Kw ts t)).map zN) _;rw[lM,ú]at A;have G: ∀S,yE (.val (tbl T)) #[0,5] S=.ok #[(Kw ts t:Int),5] S:=λS=>by rw[hw];rfl
 refine YX (t,out) (#[t,0]) z {A,D,by rw[b];exact md #[]} ?_;unfold dD;apply zA
 .unfold dZ;simp? [u,xM (n:=(ts.length:Int)) c #[] #[], <-b];rfl
 unfold nA;simp? [xD (B _),m,G,Yh (show Kw ts t<=1000 by lia),lM,ú,show Kw ts t<1000000 by lia];rw[show IT 1 [0,2,3] _=[none,some _,some _,some _]from rfl,K];simp? [rX,(λY=>tup2 _ _ Y),wM (B z) (by rw[lM];lia),XD C];rw[ù];rfl
theorem Qq(j:l<↑2)(G:l≠p)(H:l≠q)(D:S[p]? =#[vs,2])(C:S[q]? =#[ys.map MV.str,2])(s: ∀d∈vs,VS d)(E:1<=↑9)(A:↑9<=4)(u:1<=ys.length)(w:ys.length<=10)(F:Se ts)(N:M<=4)(x):
  ∃(as:List Rw)(z:Int),as.length=M/\(∀a∈as,zES ts ys vs a)/\zC 5 uT [#[l,1],.val (TT ts),#[q,1],#[p,1],.val (zN M)] (Wl S l x)=#[as.map zY,Wl S l z,2]:=by
 obtain⟨_,_,e,as,z,k',t',rfl,rfl,c,m⟩:=aK (gf:=zU 6) (n:=M) (λi y S'=> ∃(as:List Rw)(z:Int)(k' t':R0),y=A8 ts M l p q ↑2 k' t'/\S'=Wl (S++[.lst #[as,9]]) l z/\(∀a∈as,zES ts ys vs a)/\as.length=i) ((List.range M).map zN) (by simp) (ZB ([]) x none none {rfl,rfl,(by simp),rfl}) (λd _ i hi y L z0=>by refine z0.j λas z k' t' z0=>?_;refine z0.g λB I c m=>?_;subst B I;obtain⟨a,J,K,o,v⟩:=Kz j G H D C s E A u w F (as:=as) #[] z _ t';exact{_,_,_,rfl,v,_,K,_,J,rfl,rfl,λb v=>(ì.mp v).elim (c b) λh=>by rw[mS.mp h];exact o,by simp[m]});rw[lM,ú]at m;refine(Z2 as z m c (Au rfl ?_ (à _) (by rw[fF j];exact HW j z _) (xO λd hd=>by refine(mM.mp hd).a λa o k=>?_;subst k;exact gA ((show pd (zY a)=true/\EM (zY a)<=3 by
   have A:=MY λd hd=>(QD (((c a o).2.1 d hd).ok s)).2;unfold zY;refine{by rw[wV,xC,xC,wV,(iM λd hd=>(QD (((c a o).2.1 d hd).ok s)).1)];rfl,?_};rw[iL,xZ,xZ,QA,MX,iL]
   lia)).1)));unfold uT fnJ;show zG (uR [some _,some _,some _,some _,some _,none,none,none] _)=_;rw[fF j];refine zW ?_;apply zA
 .unfold mU;simp? [nI,fF j];rfl
 refine zA (ρ':=A8 ts M l p q ↑2 k' t') (S':=Wl (S++[.lst #[as,9]]) l z) ?_ ?_
 .unfold mV;simp? [Yh (show M<=1000 by lia)];exact e
 unfold mW;simp? [jO]
end
noncomputable abbrev N6(a:MV)(m:Nat)(t u w n:R0):Rho:=[some a,#[m],t,u,w,n]
def eA(as:List Rw):List (List Nat):=as.flatMap λa=>a.2.filterMap vn
def QE(v):vn (.tup [.str IS,v])=none:=by cases v<;>simp[vn]
theorem KB: ∀ j ,(∀d∈j,gQ d)-> ∀ fs  w n ,fs.length+j.length<1000->
  ∃ D B ,wO (aM 2 (zB (zU 4) (zB (zU 5) zZ))) yK [] j (N6 a ↑2 t u w n) (S++[.lst #[fs,8]])=#[N6 a ↑2 t u D B,S++[.lst ((wA fs (j.filterMap vn)).map MV.str)],0]
 |[],_,fs,w,n,_=>(Y6 w n rfl)
 |d::j,hT,fs,w,n,hl=>by
  rw[lC]at hl;have m:=zF S (.lst #[fs,8]);rcases hT d mF0 with⟨x,rfl⟩|⟨v,hv,rfl⟩
  .have o:yK (N6 a ↑2 t u #[UB,4] #[x,4]) (S++[.lst #[fs,8]])=#[N6 a ↑2 t u #[UB,4] #[x,4],S++[.lst ((qZ fs x).map MV.str)],0]:=by
    unfold yK xU;unfold qZ;by_cases h:x∈fs
    .rw[iP h];simp? [Ao,pO true m (BQ x) MZ,dT0 (NA.mpr h),Bool.not_true,fT0,iF]
    .rw[iN h];simp? [Ao,pO true m (BQ x) MZ,dF0 (λz=>h (NA.mp z)),Bool.not_false,xD m,wM m (by rw[lM];lia),oI,ù,ç,List.map_nil]
   have y:=rV fs x;obtain⟨s,q,b⟩:=KB j (λe c=>hT e (mO _ c)) (qZ fs x) _ #[x,4] #[];refine Y6 s q ?_;rw[yC rfl o (yU _),b,Ĳ,JZ];rfl
  .have o:yK (N6 a ↑2 t u #[IS,4] (some v)) (S++[.lst #[fs,8]])=#[N6 a ↑2 t u #[IS,4] (some v),S++[.lst #[fs,8]],0]:=by unfold yK xU;exists 7,Qg,fT0,iF
   obtain⟨s,q,b⟩:=KB j (λe c=>hT e (mO _ c)) fs _ (some v) #[];refine Y6 s q ?_;rw[yC rfl o (yU _),b,Ĳ,QE]
def Aw(ks xs ys):wA ks (xs++ys)=wA (wA ks xs) ys:=by
 induction xs generalizing ks with
 |nil=>rfl
 |cons x xs ih=>exact ih _
theorem UC(c: ∀T,stay gs (S++T)): ∀ as ,(∀b∈as,(∀d∈b.2,gQ d)/\b.2.length<=4)-> ∀ fs  t u w n ,fs.length+4 * as.length<1000->
  ∃ t' G I B ,wO (aM 2 (zB (zU 2) (zB (zU 3) zZ))) kD gs #[as,9] (N6 a ↑2 t u w n) (S++[.lst #[fs,8]])=#[N6 a ↑2 t' G I B,S++[.lst ((wA fs (eA as)).map MV.str)],0]
 |[],_,fs,t,u,w,n,_=>(ZB t u w n rfl)
 |b::as,hA,fs,t,u,w,n,hl=>by
  rw[lC]at hl;obtain⟨v,J⟩:=hA b mF0;obtain⟨A,m,D⟩:=KB b.2 v fs w n #[];have C:=BS (b.2.filterMap vn) fs;have j:=ı vn b.2;obtain⟨E,o,F,y,s⟩:=UC c as (λe q=>hA e (mO _ q)) (wA fs (b.2.filterMap vn)) _ _ A m #[];refine ZB E o F y ?_;rw[ç,yC rfl ?_ (c _),s]
  .show _=R.ok _ (S++[.lst ((wA fs (b.2.filterMap vn++eA as)).map MV.str)]);rw[Aw]
  .unfold kD gC;exists 7,Dx,D
theorem zAA(h:SqM S m #[as,9])(s: ∀b∈as,(∀d∈b.2,gQ d)/\b.2.length<=4)(A:as.length<=100):zC 1 fC [.val m] S=#[(wA [] (eA as)).map MV.str,S,2]:=by
 refine h.itQ.a λgs u hi=>?_;have q:kE [some m,none,none,none,none,none] S=#[N6 m ↑2 none none none none,S++[.lst []],0]:=by unfold kE;exists 7,rfl
 obtain⟨a,c,j,o,v⟩:=UC u as s [] none none none none (by simp only[ă];lia);have y:kG (N6 m ↑2 none none none none) (S++[.lst []])=#[N6 m ↑2 a c j o,S++[.lst ((wA [] (eA as)).map MV.str)],0]:=by unfold kG;exists 7,hi [.lst []],v
 have w:kH (N6 m ↑2 a c j o) (S++[.lst ((wA [] (eA as)).map MV.str)])=.ok (.ret #[↑2,1]) (S++[.lst ((wA [] (eA as)).map MV.str)]):=by unfold kH;exists 7,rfl
 refine ZE rfl ?_ (à _) (zF S _) (DG _ _);show zG (bE [some m,none,none,none,none,none] S)=_;unfold bE;rw[yI q,yI y,w];rfl
section
def w2_a(h:l<↑2):(Wl (S++[a,b]) l x)[↑2]? =some a:=by rw[BV (å h)];simp
def zEU(h:l<↑2):(Wl (S++[a,b]) l x)[↑2+1]? =some b:=by rw[BV (å (ĸ h)),GE]
theorem zEV(h:l<↑2)(a'):(Wl (S++[a,b]) l x).set ↑2 a'=Wl (S++[a',b]) l x:=by unfold Wl;rw[ĵ _ _ h,ĵ _ _ h,Ą _ _ (by rw[Ć];exact à _),Ć,sub_self];rfl
theorem zEW(h:l<↑2)(b'):(Wl (S++[a,b]) l x).set (↑2+1) b'=Wl (S++[a,b']) l x:=by unfold Wl;rw[ĵ _ _ h,ĵ _ _ h,Ą _ _ (by rw[Ć];exact le_succ _),Ć,Nat.add_sub_cancel_left];rfl
end
noncomputable abbrev H6(l a m:Nat)(k:R0):Rho:=[#[l],#[a],#[2,0],#[m],#[m+1],k]
theorem La(c:l<↑2)(w:fs.length<=16)(B:hs.length<1000):
  ∃(q j:Ch)(z:Int),(j++q).Perm (hs++fs)/\j.length<=hs.length+1/\q.length<=16/\aI (H6 l a ↑2 k) (Wl (S++[.lst #[fs,8],.lst #[hs,8]]) l x)=#[H6 l a ↑2 k,Wl (S++[.lst #[q,8],.lst #[j,8]]) l z,0]:=by
 have o:l<(S++[MO.lst #[fs,8],MO.lst #[hs,8]]).length:=by rw[lA];lia
 have b: ∀z,(Wl (S++[.lst #[fs,8],.lst #[hs,8]]) l z)[↑2]? =some _:=λz=>w2_a c;have y: ∀z,(Wl (S++[.lst #[fs,8],.lst #[hs,8]]) l z)[↑2+1]? =some _:=λz=>zEU c;unfold aI fE;by_cases h:fs=[]
 .subst h;refine Ze ([]) hs x (.refl _) (le_succ _) (by simp) ?_;exists 7,Qk (b x),show _=false from rfl,fT0,iF
 .have C:0<fs.length:=List.length_pos_iff.mpr h;obtain⟨m,s⟩: ∃m,m=(fs.map MV.str).length:={_,rfl}
  have A:m=fs.length:=by rw[s,lM]
  have u:=md (x:=x) (show(0:Int)<(m:Int) by lia);generalize hi:x % (m:Int)=i at u;have v:i.toNat<fs.length:=by lia
  refine Ze (fs.eraseIdx i.toNat) (hs++[fs[i.toNat]]) (x / (m:Int)) ?_ (by simp) (ó (List.length_eraseIdx_le ..) w) ?_
  .rw[aA];refine .append_left _ ?_;have e:fs.take i.toNat++fs[i.toNat]::fs.drop (i.toNat+1)=fs:=by rw[<-ĕ v,List.take_append_drop]
   have p:(fs.take i.toNat++fs[i.toNat]::fs.drop (i.toNat+1)).Perm _:=List.perm_middle;rw[e]at p;rw[List.eraseIdx_eq_take_drop_succ];exact p.symm
  .simp? [Qk (b x),show(!(fs.map MV.str).isEmpty)=true by simpa using h,xD (y x),xD (b x),wF (b x), <-s,xM o (show(0:Int)<(m:Int) by lia) #[],hi,Yl (b (x / (m:Int))) u.1 (by rw[<-s];exact u.2) #[] (by rw[ë,gE v];rfl),Ql,zEV c];rw[wM (zEU c) (by rw[lM];lia),jO,zEW c,ù];rfl
theorem Yp(F:l<↑2)(A:l≠a)(H:S[a]? =#[as.map zY,2])(q: ∀b∈as,(∀d∈b.2,gQ d)/\b.2.length<=4)(K:as.length<=4):
  ∃(hs:Ch)(z:Int),hs.length<=2/\(∀y∈hs,y∈wA [] (eA as))/\hs.Nodup/\ ∃fs:List (List Nat),pN [.loc l,.loc a,.int 2] (Wl S l x)=.ok #[↑2+1,1] (Wl (S++[.lst #[fs,8],.lst #[hs,8]]) l z):=by
 have s:=zAA (.inr {a,rfl,(BV A x).trans H}) q #[]
 have v:(wA [] (eA as)).length<=16:=by
  have O:=BS (eA as) []
  have B: ∀as:List Rw,(∀b∈as,b.2.length<=4)->(eA as).length<=4 * as.length:=λas=>by
   induction as with
   |nil=>simp[eA]
   |cons b as ih=>
    intro q;have:=ih λc s=>q c (mO _ s);have K:=q b mF0;have T:=ı vn b.2;show(b.2.filterMap vn++eA as).length<=_;rw[lA,lC]
    lia
  have:=B as λb w=>(q b w).2;rw[ă]at O
  lia
 have o:(wA [] (eA as)).Nodup:=NB _ nodup_nil;generalize wA [] (eA as)=fs at s v o;have C:l<(S++[MO.lst #[fs,8]]).length:=by rw[lA];lia
 have U:=md (x:=x) (n:=3);obtain⟨_,_,e,m,hs,z,k',rfl,rfl,u,E,_⟩:=aK (gf:=zU 5) (n:=2) (λi D S'=> ∃(m hs:Ch)(z:Int)(k':R0),D=H6 l a ↑2 k'/\S'=Wl (S++[.lst #[m,8],.lst #[hs,8]]) l z/\(hs++m).Perm fs/\hs.length<=i/\m.length<=16) ((List.range (x % 3).toNat).map zN) (by simp;lia) (ZB fs ([]) (x / 3) none {rfl,rfl,.refl _,à _,v}) (λd _ i hi D Q z0=>by refine z0.j λm hs z k' z0=>?_;refine z0.p λG N u E L=>?_;subst G N;obtain⟨v,B,J,p2,P,I,w⟩:=La (hs:=hs) F L #[];exact{_,_,_,rfl,w,v,B,J,some d,rfl,rfl,p2.trans u,by lia,I});rw[lM,ú]at E;refine{hs,z,by lia,λy M=>u.mem_iff.mp (ę _ M),(Ŀ.mp (u.nodup_iff.mpr o)).1,m,?_};show zG (pM [#[l],#[a],#[2,0],none,none,none] (Wl S l x))=_;refine zW ?_;unfold pM;apply zA
 .unfold qV;simp? [s,nI,fF F];rfl
 refine zA (ρ':=H6 l a ↑2 none) (S':=Wl (S++[.lst #[fs,8],.lst []]) l x) ?_ (zA (ρ':=H6 l a ↑2 k') (S':=Wl (S++[.lst #[m,8],.lst #[hs,8]]) l z) ?_ ?_)
 .unfold qW;simp? [nI,fF C];rw[lA,aA];rfl
 .unfold qX;simp? [show(2:Int)+1=3 from rfl,xM (n:=3) (x:=x) (show l<(S++[MO.lst #[fs,8],MO.lst []]).length by rw[lA];lia),EZ (j:=x % 3) #[]];exact e
 unfold qY;exists 7,rfl
theorem Qr(j:S[a]? =#[as.map zY,2])(m: ∀b∈as,(∀d∈b.2,gQ d)/\b.2.length<=4)(u:as.length<=4):
  ∃hs:List (List Nat),hs.length<=2/\(∀y∈hs,y∈wA [] (eA as))/\hs.Nodup/\zC 3 pN [.new [.int t],#[a,1],#[2,5]] S=#[hs.map MV.str,S,2]:=by
 have s:=(gS.mp j).1;obtain⟨hs,z,v,q,o,fs,c⟩:=Yp (S:=S++[.lst []]) (l:=↑2) (by simp) #[] (zI j) m u;rw[<-rW,aA,lA, <-aA, <-fF (by simp), <-rW,aA]at c;exact{hs,v,q,o,xL rfl rfl c (.inr (Z0 _ rfl (by lia) ((GF (i:=2) rfl).trans rfl))) (DG _ _)}
theorem Dy(ds)(S):vI (.new ds) S=.ok {ds,[]} S:=rfl
theorem QF: ∀(cs:Za) Z ,Z[lc]? =#[all,2]-> ∃T:Sto,T.length=cs.length/\(∀o∈T, ∃x,o=.lst [.int x])/\zV (zU 0) bD wR [none] [(lc,all)] (cs.map MV.int) Z=.ok ((List.range' Z.length cs.length).map MV.loc) (Z++T)
 |[],Z,_=>(Z0 ([]) rfl (by simp) (by rw[aN];rfl))
 |c::cs,Z,h=>by
  obtain⟨t,u⟩:=nN c Z;have a:(Z++[MO.lst [.int t]])[lc]? =#[all,2]:=by rw[ã (gS.mp h).1];exact h
  refine(QF cs _ a).c λT b s j=>?_;refine Z0 _ (by rw[lC,lC,b]) (λo q=>(mC.mp q).elim (λe=>⟨t,e⟩) (s o)) ?_;have m:wR [#[c,0]] Z=#[[.int t],Z,2]:=by unfold wR;exists 7,u
  rw[ç];unfold zV;rw[show zU 0 _ [none] Z=.ok [some _] Z from rfl,yN,jO,show bD [some _] Z=.ok true Z from rfl,yN,jO,m,yN,jO,show kM _ Z=.ok _ _ from rfl,jO,iP (yG a),j,aA];rw[lA];rfl
structure RI(S:Sto)(lr:Nat)(ws:Db)(rs:List Rw)(Z:Sto):Prop where
 old: ∃T,Z=S++T
 rw:Z[lr]? =#[rs.map zY,2]
 wl: ∀w∈ws,↑2<=w/\w≠lr/\ ∃x,Z[w]? =#[[.int x],2]
def XH{S:Sto}(h:↑2<=w)(o): ∃j,(S++T).set w o=S++j:={_,Ą _ _ h}
def RI.at(h:RI S lr ws rs Z){l:Nat}(e:S[l]? =some o):Z[l]? =some o:=by obtain⟨T,rfl⟩:=h.old;rw[ã (gS.mp e).1];exact e
def RI.draw(h:RI S lr ws rs Z)(hw:w∈ws)(z):RI S lr ws rs (Wl Z w z):=by
 obtain⟨T,rfl⟩:=h.old;obtain⟨o,j,x,q⟩:=h.wl w hw;refine{XH o _,?_,λv a=>?_}
 .rw[BV j];exact h.rw
 .obtain⟨c,m,y,b⟩:=h.wl v a;refine{c,m,?_};by_cases e:w=v
  .subst e;exact{z,get_set q}
  .exact{y,by rw[BV e];exact b}
def RI.put(h:RI S lr ws rs Z)(a:↑2<=lr)(rs'):RI S lr ws rs' (Z.set lr (.lst #[rs',9])):=by obtain⟨T,rfl⟩:=h.old;refine{XH a _,get_set h.rw,λv c=>?_};obtain⟨m,b,y,j⟩:=h.wl v c;exact{m,b,y,by rw[GC (Ne.symm b)];exact j}
def XI(b: ∀v∈vs,VS v)(h:Ky ts vs r):pd (zY r)=true/\EM (zY r)<40:=B2 λc a=>b c (h.2.2 c a)
abbrev zAB(lc:Nat)(ex:Int)(ts:Tk)(p m:Nat)(k:Int)(lr:Nat)(w r:R0):Rho:=[#[lc],#[ex,0],some (TT ts),#[p],#[30,0],#[m],#[k,0],#[lr],w,r]
section
theorem Lb(E:↑2<=lr)(I:S[p]? =#[vs,2])(C: ∀d∈vs,VS d)(N:1<=↑9)(O:↑9<=4)(M:Se ts)(H:RI S lr ws rs Z)(s: ∀r∈rs,Ky ts vs r)(c:↑4<=30)(hw:w∈ws)(r0):
  ∃u L J,RI S lr ws u J/\(∀r∈u,Ky ts vs r)/\u.length<=30/\gP (zAB lc ex ts p m k lr #[w] r0) Z=#[zAB lc ex ts p m k lr #[w] L,J,0]:=by
 obtain⟨P,Q,x,D⟩:=H.wl w hw;refine(Z9 (gS.mp D).1 (by have:=(gS.mp I).1;lia) (H.at I) C N O M x).d λr z o F=>?_;rw[(show Wl Z w x=Z by
   refine ŉ λj=>?_;by_cases e:w=j
   .subst e;rw[get_set D,D]
   .rw[GC e])]at F;have b:=H.draw hw z;have A: ∀{X},xF (zAB lc ex ts p m k lr #[w] (some (zY r))) (Wl Z w z)=X->gP (zAB lc ex ts p m k lr #[w] r0) Z=X:=zA (by unfold fB;simp? [F]);have a:=pO true b.rw (XI C o).1 λy K=>by refine(mM.mp K).a λq B U=>?_;subst U;exact XI C (s q B)
 have v:=λS=>lt_int (rs.length:Nat) 30 S;by_cases G:zY r∈rs.map zY
 .rw[dT0 G]at a;exact Ze rs _ _ b s c (A (by unfold xF;simp? [a];rfl))
 .rw[dF0 G]at a;by_cases T:↑4<30
  .rw[dT0 #[]]at v;exact Ze _ _ _ (b.put E _) (λq B=>(ì.mp B).elim (s q) λz=>by rw[mS.mp z];exact o) (by simp;lia) (A (by unfold xF;simp? [a,Bool.not_false,wF b.rw,lM,v,xD b.rw,wM b.rw (by rw[lM];lia),ù,ç,List.map_nil];rfl))
  .rw[dF0 #[]]at v;exact Ze rs _ _ b s c (A (by unfold xF;simp? [a,Bool.not_false,wF b.rw,lM,v];rfl))
theorem Ax(o:↑2<=lr)(A:S[p]? =#[vs,2])(y: ∀d∈vs,VS d)(E:1<=↑9)(F:↑9<=4)(C:Se ts): ∀(us:Db),(∀u∈us,u∈ws)-> ∀ rs  Z  a b ,RI S lr ws rs Z->(∀r∈rs,Ky ts vs r)->↑4<=30->
  ∃j G Y I,RI S lr ws j G/\(∀r∈j,Ky ts vs r)/\j.length<=30/\wO (zU 8) gP [] (us.map MV.loc) (zAB lc ex ts p m k lr a b) Z=#[zAB lc ex ts p m k lr Y I,G,0]
 |[],_,rs,Z,a,b,H,hr,h40=>(ZB rs Z a b ⟨H,hr,h40,rfl⟩)
 |u::us,hu,rs,Z,a,b,H,hr,h40=>by obtain⟨D,Q,L,N,B,q,O⟩:=Lb o A y E F C H hr h40 (hu u mF0) b;obtain⟨w,T,U,K,M,s,c,J⟩:=Ax o A y E F C us (λv P=>hu v (mO _ P)) D L _ Q N B q;refine ZB w T U K {M,s,c,?_};rw[ç,yC rfl O (yU _)];exact J
end
theorem Yr(W:S[p]? =#[vs,2])(J: ∀d∈vs,VS d)(O:1<=↑9)(Q:↑9<=4)(N:Se ts)(ex){cs:Za}(hc:cs.length<=63):
  ∃rs:List Rw,(∀r∈rs,Ky ts vs r)/\↑4<=30/\zC 5 BO [.new (cs.map MV.int),#[ex,5],.val (TT ts),#[p,1],#[30,5]] S=#[rs.map zY,S,2]:=by
 obtain⟨a,c⟩: ∃a,a=S++[MO.lst (cs.map MV.int)]:={_,rfl}
 obtain⟨t,F⟩:=nN ex a;have G:a.length=↑2+1:=by rw[c];simp
 have B:=xM (n:=20) (x:=t) (show a.length<(a++[MO.lst []]).length by simp);rw[<-rW, <-rW]at B;obtain⟨o,b⟩: ∃o,o=a++[MO.lst [.int (t / 20)],MO.lst []]:={_,rfl}
 have Z:o.length=↑2+3:=by rw[b];simp[G]
 have v:o[↑2]? =#[cs.map MV.int,2]:=by rw[b,c];simp
 refine(QF cs o v).c λT t1 L M=>?_;have K:=md (x:=t) (n:=20);obtain⟨A,C⟩: ∃A:List Nat,A=List.range' o.length cs.length++List.replicate (t % 20).toNat a.length:={_,rfl}
 have y: ∀Y,EX (.new [.loc a.length]) #[t % 20,5] Y=#[(List.replicate (t % 20).toNat a.length).map MV.loc,Y,2]:=λY=>by show(if 0<=t % 20/\t % 20<100000/\[MV.loc a.length].length * (t % 20).toNat<=sizeLine then _ else _)=_;rw[iP {K.1,by lia,fits (by simp;lia)},List.flatten_replicate_singleton,List.map_replicate]
 have q: ∀Y,kL (.new _) (.new _) Y=#[A.map MV.loc,Y,2]:=λY=>by rw[C,ù];exact VM rfl rfl (fits (by rw[lM,lM,List.length_range',Đ];lia))
 have U:RI S (↑2+2) A [] (o++T):=by
  refine{{[.lst (cs.map MV.int),.lst [.int (t / 20)],.lst []]++T,by rw[b,c];simp},?_,λw hw=>?_}
  .rw[ã #[],b,c];simp
  .rw[C]at hw;rcases ì.mp hw with hw|hw
   .refine(List.mem_range'.mp hw).a λj hj ac=>?_;subst ac;obtain⟨x,P⟩:=L _ (Ľ (show j<T.length by lia));exact{by lia,by lia,x,by rw[æ #[],show o.length+1 * j - o.length=j by lia,gE #[],P]}
   .rw[(List.mem_replicate.mp hw).2];exact{by lia,by lia,t / 20,by rw[ã #[],b,wW]}
 refine(Ax (lc:=↑2) (ex:=ex) (m:=a.length) (k:=t % 20) #[] W J O Q N A (λu h=>h) [] (o++T) none none U (by simp) (by simp)).j λrs Z' a' X V=>V.g λH I E e=>?_;obtain⟨T',s⟩:=H.old;refine Z0 rs I E (xL (S2:=a) rfl (by rw[c];rfl) ?_ (.inr {↑2+2,rfl,by lia,by rw[<-s];exact H.rw}) (xO λd hd=>by refine(mM.mp hd).a λr D am=>?_;subst am;exact gA (XI J (I r D)).1));rw[<-s];show zG (pI [#[↑2],#[ex,0],some (TT ts),#[p],#[30,0],none,none,none,none,none] a)=_;unfold pI
 refine zW (zA (by unfold qQ;simp? [F];rfl) (zA (by unfold qS;simp? [B];rfl) (zA (ρ':=zAB ↑2 ex ts p a.length (t % 20) (↑2+2) none none) (S':=o) (by
  unfold qT;simp? [jO];rw[lA,G,aA,b];rfl) (zA (by
  unfold qU;simp? [yV v,lM,show cs.length<1000000 by lia];rw[show IT 1 [] _=[none]from rfl,M];simp? [lst1,y,q,Dy];exact e) rfl))))
abbrev Ev:=List (MV×MV)
def GH(E:Ev):Prop:= ∀p∈E,(∃x,p.1=.str x)/\VS p.2
noncomputable def isv:MV->MV
 |.tup [_,v]=>v
 |_=>.non
def fG:List MV->List MV->Ev->Option Ev
 |t::ts,c::cs,E=>match vn t with
  |some x=>match look E (.str x)with
   |none=>fG ts cs (E++[(.str x,c)])
   |some d=>if d=c then fG ts cs E else none
  |none=>if isv t=c then fG ts cs E else none
 |_,_,E=>some E
def HY(x)(c)(ts cs)(E):fG (.tup [.str UB,.str x]::ts) (c::cs) E=match look E (.str x)with |none=>fG ts cs (E++[(.str x,c)])|some d=>if d=c then fG ts cs E else none:=by
 conv=>lhs;unfold fG
 rw[JZ]
theorem XJ(v c)(ts cs)(E):fG (.tup [.str IS,v]::ts) (c::cs) E=if v=c then fG ts cs E else none:=by
 conv=>lhs;unfold fG
 rw[QE];rfl
theorem Ay(V F)(k):look (V++F) k=(look V k).or (look F k):=by unfold look;rw[List.find?_append];cases V.find? (λp=>decide (p.1=k))<;>rfl
def XM(h:GH E)(e:look E k=some d):VS d:=by refine(ć.mp e).a λp a b=>?_;subst b;exact(h p (Ļ a)).2
def Qs(e:look E k=some d): ∃p∈E,p.1=k:=by refine(ć.mp e).a λp a b=>?_;subst b;exact Z3 p (Ļ a) (by simpa using find?_some a)
theorem QG{V:Ev}(h:look V k=none):putK V k d=V++[(k,d)]:=by unfold putK;rw[h];rfl
theorem NC: ∀ ts cs  F G ,fG ts cs F=some G->GH F->(∀c∈cs,VS c)->GH G
 |[],_,F,G,h,hF,_=>by cases h;exact hF
 |t::ts,[],F,G,h,hF,_=>by cases h;exact hF
 |t::ts,c::cs,F,G,h,hF,hc=>by
  have j:=λd hd=>hc d (mO _ hd);unfold fG at h;split at h
  .rename_i x b;split at h
   .refine NC ts cs _ G h (λp a=>?_) j;rcases ì.mp a with a|a
    .exact hF p a
    .rw[mS.mp a];exact{⟨x,rfl⟩,hc c mF0}
   .split at h
    .exact NC ts cs F G h hF j
    .cases h
  .split at h
   .exact NC ts cs F G h hF j
   .cases h
theorem iS(C)(k x j):look (C++[(k,x)]) j=(look C j).or (if k=j then some x else none):=by
 rw[Ay];unfold look;rw[find?_cons];by_cases h:k=j
 .rw[iP h,dT0 h];rfl
 .rw[iN h,dF0 h];rfl
theorem Gy: ∀ ts cs  E G ,fG ts cs E=some G->ts.length<=cs.length->(∀k,look E k≠none->look G k≠none)/\ ∀t∈ts, ∀x,vn t=some x->look G (.str x)≠none
 |[],_,E,G,h,_=>by cases h;exact{λk h=>h,λt v=>by simp at v}
 |t::ts,[],E,G,h,hl=>by simp at hl
 |t::ts,c::cs,E,G,h,hl=>by
  rw[lC,lC]at hl
  have u: ∀{F:Ev},fG ts cs F=some G->(∀k,look E k≠none->look F k≠none)->(∀x,vn t=some x->look F _≠none)->_/\ ∀t'∈t::ts, ∀x,vn t'=some x->look G _≠none:=λA w s=>by
   obtain⟨a,b⟩:=Gy ts cs _ G A #[];refine{λk q=>a k (w k q),λt' m x o=>?_};rcases mC.mp m with rfl|m
   .exact a _ (s x o)
   .exact b t' m x o
  unfold fG at h;split at h
  .rename_i x o;split at h
   .rename_i B;refine u h (λk q=>?_) λy j=>?_
    .rw[Ay]
     cases z:look E k with
     |none=>exact absurd z q
     |some d=>simp
    .rw[o]at j;cases j;rw[iS];simp
   .rename_i d hd;split at h
    .exact u h (λk q=>q) λy j=>by rw[o]at j;cases j;rw[hd];simp
    .cases h
  .rename_i o;split at h
   .exact u h (λk q=>q) λy j=>by rw[o]at j;cases j
   .cases h
section
def LM(h:S[l]? =#[E,7])(a:GH E):lG S #[l,1]=some (l,E):=Qi h ((by rw[ü];intro p b;obtain⟨x,e⟩:=(a p b).1;rw[e];rfl))
theorem XN(h:S[l]? =#[E,7])(a:GH E):Dg #[l,1] S=true:=by unfold Dg;rw[LM h a];rfl
theorem zAC(h:S[l]? =#[E,7])(a:GH E)(x):DR false (.val (.str x)) #[l,1] S=#[.bl (look E (.str x)).isSome,S,1]:=by unfold DR;rw[LM h a];rfl
theorem Qt(h:S[l]? =#[E,7])(b:GH E)(a:look E (.str x)=some d):ZV #[l,1] (.val (.str x)) S=#[d,S,1]:=by unfold ZV;rw[LM h b];dsimp only;rw[a];rfl
def Yt(h:S[l]? =#[E,7])(b:GH E)(hz:E.length<1000000)(a:look E (.str x)=some d):Pl #[l,1] [.val (.str x),.val c] S=#[d,S,1]:=by show ZS _ _ _ S=_;unfold ZS;rw[LM h b];dsimp only;rw[iP ⟨rfl,hz⟩,a]
def Yu(h:S[l]? =#[E,7])(b:GH E)(hz:E.length<1000000)(a:look E (.str x)=none):Pl #[l,1] [.val (.str x),.val c] S=#[c,S.set l (.dic (E++[(.str x,c)])),1]:=by show ZS _ _ _ S=_;unfold ZS;rw[LM h b];dsimp only;rw[iP ⟨rfl,hz⟩,a];rw[QG a]
end
def DI(hd:pd d=true/\EM d<40)(a:pd e=true):MG (.val d) (.val e) S=#[.bl (!decide (d=e)),S,1]:=Oo (oH _ hd.1 a (ĸ hd.2))
noncomputable abbrev FT(lt cs:Q0)(n:Nat)(a b c:R0):Rho:=[#[lt,3],#[cs,3],#[n],a,b,c]
def Yv(y:gQ t)(w:VS c)(b:GH E)(hz:E.length<1000)(o):
  (∃F e,(∀ts cs,fG (t::ts) (c::cs) E=fG ts cs F)/\GH F/\F.length<=E.length+1/\wC (FT lt cs0 ↑2 (some t) (some c) o) (S++[.dic E])=#[FT lt cs0 ↑2 (some t) (some c) (some e),S++[.dic F],0])\/
  ((∀ts cs,fG (t::ts) (c::cs) E=none)/\wC (FT lt cs0 ↑2 (some t) (some c) o) (S++[.dic E])=.ok (.ret (.val .non)) (S++[.dic E])):=by
 have q:(S++[.dic E])[↑2]? =#[E,7]:=zF _ _
 have u: ∀(d:MV)(s:Ev),VS d->nZ (FT lt cs0 ↑2 (some t) (some c) (some d)) (S++[.dic s])=if d=c then #[FT lt cs0 ↑2 (some t) (some c) (some d),S++[.dic s],0]else .ok (.ret (.val .non)) (S++[.dic s]):=λd s hd=>by
  unfold nZ;simp? [DI (oK hd) (oK w).1];by_cases a:d=c
  .rw[dT0 a,iP a];rfl
  .rw[dF0 a,iN a];rfl
 unfold wC;rcases y with⟨x,rfl⟩|⟨v,hv,rfl⟩
 .cases z:look E (.str x)with
  |none=>
   have j:yX (FT lt cs0 ↑2 #[[.str UB,.str x],3] (some c) o) (S++[.dic E])=#[FT lt cs0 ↑2 #[[.str UB,.str x],3] (some c) (some c),S++[.dic (E++[(.str x,c)])],0]:=by unfold yX;simp? [Ap,Aq,Ao,XN q b,Yu q b (show E.length<1000000 by lia) z,oI]
   refine .inl (Zo _ c (λts cs=>by rw[HY,z]) (λp m=>?_) (by simp) ?_)
   .rcases ì.mp m with m|m
    .exact b p m
    .rw[mS.mp m];exact{⟨x,rfl⟩,w}
   .rw[yI j,u c _ w,iP rfl]
  |some d=>
   have j:yX (FT lt cs0 ↑2 #[[.str UB,.str x],3] (some c) o) (S++[.dic E])=#[FT lt cs0 ↑2 #[[.str UB,.str x],3] (some c) (some d),S++[.dic E],0]:=by unfold yX;exists 7,Ap,Aq,Ao,XN q b,Yt q b (show E.length<1000000 by lia) z
   refine qq (yI j) (qq (u d _ (XM b z)) ?_);by_cases a:d=c
   .exact .inl (Zo E d (λts cs=>by rw[HY,z];exact iP a) b (by lia) (by rw[iP a]))
   .exact .inr {λts cs=>by rw[HY,z];exact iN a,by rw[iN a]}
 .have j:yX (FT lt cs0 ↑2 #[[.str IS,v],3] (some c) o) (S++[.dic E])=#[FT lt cs0 ↑2 #[[.str IS,v],3] (some c) (some v),S++[.dic E],0]:=by unfold yX;exists 7,Ap,Aq,Qg,fT0,iF
  refine qq (yI j) (qq (u v _ hv) ?_);by_cases a:v=c
  .exact .inl (Zo E v (λts cs=>by rw[XJ,iP a]) b (by lia) (by rw[iP a]))
  .exact .inr {λts cs=>by rw[XJ,iN a],by rw[iN a]}
theorem Qu: ∀ ts cs  E  a b c ,(∀t∈ts,gQ t)->(∀c∈cs,VS c)->GH E->E.length+ts.length<1000->
  (∃F B u q,fG ts cs E=some F/\wO (aM 2 (zB (zU 3) (zB (zU 4) zZ))) wC [] (pairs ts cs) (FT lt cs0 ↑2 a b c) (S++[.dic E])=#[FT lt cs0 ↑2 B u q,S++[.dic F],0])\/
  (fG ts cs E=none/\ ∃m,wO (aM 2 (zB (zU 3) (zB (zU 4) zZ))) wC [] (pairs ts cs) (FT lt cs0 ↑2 a b c) (S++[.dic E])=.ok (.ret (.val .non)) (S++[.dic m]))
 |[],cs,E,a,b,c,_,_,_,_=>.inl (ZB E a b c ⟨rfl,rfl⟩)
 |t::ts,[],E,a,b,c,_,_,_,_=>.inl (ZB E a b c ⟨rfl,rfl⟩)
 |t::ts,d::cs,E,a,b,c,ht,hc,hE,hz=>by
  rw[lC]at hz;have v:aM 2 (zB (zU 3) (zB (zU 4) zZ)) (.tup [t,d]) (FT lt cs0 ↑2 a b c) _=.ok _ (S++[.dic E]):=rfl;have o: ∀m:Ev,stay [] (S++[.dic m]):=λm=>yU _;rcases Yv (ht t mF0) (hc d mF0) hE #[] c with⟨F,e,h1,h2,h3,h4⟩|⟨h1,h4⟩
  .show(∃F B u q,_/\wO _ _ _ (.tup [t,d]::pairs ts cs) _ _=_)\/(_/\ ∃m,wO _ _ _ (.tup [t,d]::pairs ts cs) _ _=_)
   rw[yC v h4 (o F),h1];exact Qu ts cs F (some t) (some d) (some e) (λt j=>ht t (mO _ j)) (λt j=>hc t (mO _ j)) h2 #[]
  .refine .inr {h1 ts cs,E,?_};show wO _ _ _ (.tup [t,d]::pairs ts cs) _ _=_;rw[ML v h4]
def Gz:GH []:=λp h=>by simp at h
theorem zEY(u: ∀t∈ts,gQ t)(s: ∀c∈cs,VS c)(hz:ts.length<900):
  zC 2 rO [#[ts,6],#[cs,6]] S=match fG ts cs []with |some F=>.ok #[S.length,1] (S++[.dic F])|none=>#[.non,S,1]:=by
 have o:pE [#[ts,3],#[cs,3],none,none,none,none] S=#[FT ts cs ↑2 none none none,S++[.dic []],0]:=by unfold pE;exists 7,KW
 have m:A6 [#[ts,6],#[cs,6]] _=.ok {_,[]} (S++[.dic []]):=rfl;have q:pF (FT ts cs ↑2 none none none) (S++[.dic []])=wO (aM 2 (zB (zU 3) (zB (zU 4) zZ))) wC [] (pairs ts cs) (FT ts cs ↑2 none none none) (S++[.dic []]):=by unfold pF;exists 7,m
 rcases Qu ts cs [] none none none u s Gz (by simp only[ă];lia)with⟨F,a,b,c,h1,h2⟩|⟨h1,E',h2⟩
 .rw[h1];dsimp only;have j:rO [.tup ts,.tup cs] S=.ok #[↑2,1] (S++[.dic F]):=by show zG (iR [some _,some _,none,none,none,none] S)=_;unfold iR;rw[yI o,yI (q.trans h2)];rfl
  exact nH rfl j (à _) (zF _ _)
 .rw[h1];dsimp only;have j:rO [.tup ts,.tup cs] S=#[.non,S++[.dic E'],1]:=by show zG (iR [#[ts,3],#[cs,3],none,none,none,none] S)=_;unfold iR;rw[yI o,jP (q.trans h2)];rfl
  exact xX rfl j (IY _) (λl=>by simp)
def zAD(h:S[l]? =#[E,7])(a:GH E):Dk [#[l,1]] S=.ok #[↑2,1] (S++[.dic E]):=by unfold Dk;dsimp only;rw[LM h a]
noncomputable abbrev D4(m:MV)(n:Nat)(a t:R0):Rho:=[some m,#[n],a,t]
theorem QH: ∀ j ,(∀d∈j,gQ d)-> ∀ ks  t ,ks.length+j.length<100000->
  ∃t',wO (zU 3) cT [] j (D4 m ↑2 a t) (S++[.dic (dT ks)])=#[D4 m ↑2 a t',S++[.dic (dT (wA ks (j.filterMap vn)))],0]
 |[],_,ks,t,_=>⟨t,rfl⟩
 |d::j,hT,ks,t,hl=>by
  rw[lC]at hl;rcases hT d mF0 with⟨x,rfl⟩|⟨v,hv,rfl⟩
  .have q:=rV ks x;obtain⟨t',c⟩:=QH j (λe b=>hT e (mO _ b)) (qZ ks x) #[[.str UB,.str x],3] #[];refine{t',?_};rw[yC rfl ?_ (yU _)]
   .rw[Ĳ,JZ];exact c
   .unfold cT cS;simp? [Ap,Aq,Ao,MU,Yf (zF S (.dic (dT ks))) #[],oI]
  .obtain⟨t',c⟩:=QH j (λe b=>hT e (mO _ b)) ks _ #[];refine{t',?_};rw[yC rfl ?_ (yU _)]
   .rw[Ĳ,QE];exact c
   .unfold cT cS;exists 7,Ap,Aq,Qg,fT0,iF
theorem Qv(c: ∀T,stay gs (S++T)): ∀ as ,(∀b∈as,(∀d∈b.2,gQ d)/\b.2.length<=4)-> ∀ ks  a t ,ks.length+100 * as.length<50000->
  ∃j t',wO (zU 2) cU gs #[as,9] (D4 m ↑2 a t) (S++[.dic (dT ks)])=#[D4 m ↑2 j t',S++[.dic (dT (wA ks (eA as)))],0]
 |[],_,ks,a,t,_=>(Y6 a t rfl)
 |p::ps,h,ks,a,t,hl=>by
  rw[lC]at hl;have u:=h p mF0;have v:=u.2;obtain⟨o,A⟩:=QH p.2 u.1 ks t #[];have w:cU (D4 m ↑2 (some (zY p)) t) (S++[.dic (dT ks)])=#[D4 m ↑2 (some (zY p)) o,S++[.dic (dT (wA ks (p.2.filterMap vn)))],0]:=by unfold cU mG;exists 7,show∀Z,yE _ _ Z=.ok _ Z from λ_=>rfl,Dx,A
  have B:=BS (p.2.filterMap vn) ks;have C:(p.2.filterMap vn).length<=p.2.length:=ı _ _;obtain⟨j,t',y⟩:=Qv c ps (λq s=>h q (mO _ s)) (wA ks (p.2.filterMap vn)) _ o #[];refine Y6 j t' ?_;rw[ç,yC rfl w (c _),y];show _=R.ok _ (S++[.dic (dT (wA ks (p.2.filterMap vn++eA ps)))]);rw[Aw]
theorem zEZ(v:SqM S m #[as,9])(h: ∀b∈as,(∀d∈b.2,gQ d)/\b.2.length<=4)(w:as.length<=100):kR [m] S=#[(wA [] (eA as)).map MV.str,S++[.dic (dT (wA [] (eA as)))],2]:=by
 refine v.itQ.a λgs o hi=>?_;obtain⟨c,a,q⟩:=Qv o as h [] none none (by simp only[ă];lia);have j:iD [some m,none,none,none] S=#[D4 m ↑2 none none,S++[.dic (dT [])],0]:=by unfold iD;exists 7,KW
 have u:iE (D4 m ↑2 none none) (S++[.dic (dT [])])=#[D4 m ↑2 c a,S++[.dic (dT (wA [] (eA as)))],0]:=by unfold iE;exists 7,hi [.dic (dT [])],q
 have s:iG (D4 m ↑2 c a) (S++[.dic (dT (wA [] (eA as)))])=.ok (.ret (.new ((wA [] (eA as)).map MV.str))) (S++[.dic (dT (wA [] (eA as)))]):=by unfold iG;exists 7,Qj (zF S _)
 show zG (tS [some m,none,none,none] S)=_;unfold tS;rw[yI j,yI u,s];rfl
theorem zAE(h: ∀b∈as,(∀d∈b.2,gQ d)/\b.2.length<=4)(a:as.length<=100):zC 1 kR [.new #[as,9]] S=#[(wA [] (eA as)).map MV.str,S,2]:=by refine xL rfl (show zK [.new _] S=([.loc ↑2],S++[.lst _])from rfl) (T:=[.lst #[as,9],.dic (dT (wA [] (eA as)))]) ?_ (.inl rfl) (DG _ _);rw[zEZ (.inr {_,rfl,zF _ _}) h a,aA];rfl
def GM(E:Ev)(x:Db):MV:=(look E (.str x)).getD .non
theorem oM(h:look E (.str x)=some d):GM E x=d:=by unfold GM;rw[h];rfl
theorem Ha{xs:Ch}(h:S[l]? =#[E,7])(q:GH E)(u:SqM S m #[xs,8])(v: ∀x∈xs,look E (.str x)≠none)(w:↑7<1000):zC 2 yY [#[l,1],.val m] S=.ok #[xs.map (GM E),6] S:=by
 refine u.itQ.a λgs b hi=>?_;have b:=b [];have hi:=hi [];rw[aN]at b hi
 have o: ∀x∈xs, ∃d,look E (.str x)=some d/\VS d:=λx a=>by
  cases z:look E _ with
  |none=>exact absurd z (v x a)
  |some d=>exact{d,rfl,XM q z}
 have s:zV (zU 0) eP gU [none,#[l]] gs _ S=.ok _ S:=
  yW (g:=GM E) b λx a=>by refine(o x a).a λd hd _=>?_;refine Z0 ([#[x,4],some _]) rfl rfl ?_;unfold gU;simp? [Qt h q hd];rw[oM hd]
 have c:pd (.tup (xs.map (GM E)))=true:=by refine iM λd hd=>?_;refine(mM.mp hd).a λx a k=>?_;subst k;refine(o x a).a λd hd j=>?_;rw[oM hd];exact(oK j).1
 refine yT rfl ?_ (gA c) (λl=>by simp);show zG (pG [some _,some m] S)=_;unfold pG qE;simp? [hi,lM,show ↑7<1000000 by lia];rw[show IT 1 [0] [some _,some m]=[none,some _]from rfl,s];rfl
def UD(a:↑4=n)(b:F (zK rs S).1 (zK rs S).2=#[ds,S++T,2]): ∃j,zC n F rs S=#[ds,S++j,2]/\(j=T\/j=[]/\vO ↑2 ds):=by
 unfold zC;rw[iP a,b];show∃j,hX S _ _=_/\_;unfold hX;rw[iP rK];dsimp only;split
 .rename_i h;exact{[],by rw[aN,List.take_left'];rfl,.inr ⟨rfl,h⟩}
 .exact{T,rfl,.inl rfl}
inductive Fts(Z:Sto)(n:Nat)(mk:Int):List MV->List Ev->Prop
 |nil:Fts Z n mk [] []
 |cons {e:Nat} {G:Ev} {ws:Q0} {gs:List Ev}:n<=e->Z[e]? =some (MO.dic G)->Fts Z n mk ws gs->Fts Z n mk (.tup [.loc e,.int mk]::ws) (G::gs)
section
variable{mk:Int}
def Fts.move(h:Fts Z n mk ws gs)(k: ∀(e:Nat) G ,Z[e]? =some (MO.dic G)->Z'[e]? =some (MO.dic G)):Fts Z' n mk ws gs:=by
 induction h with
 |nil=>exact .nil
 |cons a b _ ih=>exact .cons a (k _ _ b) ih
def Fts.grow(h:Fts Z n mk ws gs):Fts (Z++T) n mk ws gs:=h.move λ_ _=>zI
def Fts.len(h:Fts Z n mk ws gs):ws.length=gs.length:=by
 induction h with
 |nil=>rfl
 |cons _ _ _ ih=>exact congrArg (· +1) ih
theorem Fts.cut(h:Fts Z n mk ws gs)(l:vO m ws)(a:m<=n):Fts Z' n mk ws gs:=by
 cases h with
 |nil=>exact .nil
 |cons=>
  have:=l.1;have:=this.1;unfold lo at this
  lia
def Fts.snoc(c:n<=e)(j:Z[e]? =#[G,7])(h:Fts Z n mk ws gs):Fts Z n mk (ws++[.tup [.loc e,.int mk]]) (gs++[G]):=by
 induction h with
 |nil=>exact .cons c j .nil
 |cons a b _ ih=>exact .cons a b ih
end
def dG(b:List Rw)(a:Rw):List Ev:=(b.filter λr=>decide (r.1=a.1)).filterMap λr=>fG a.2 r.2 []
abbrev F2(Z:Sto)(n:Nat)(out:Q0)(b:List Ev):Prop:= ∀(a:Sto) gs,stay gs a->(∀(e:Nat)(G:Ev),Z[e]? =some (MO.dic G)->a[e]? =some (MO.dic G))-> ∃o,zV (aM 2 (zB (zU 0) (zB (zU 1) zZ))) qC qD [none,none] gs out a=.ok o a/\Fts a n 1 o b
section
theorem Qw(C:(∀d∈a.2,gQ d)/\a.2.length<=4): ∀ rs  Z ,(∀T,stay gs (Z++T))->n<=Z.length->(∀r∈rs, ∀c∈r.2,VS c)->
  ∃out T,zV (aM 2 (zB (zU 0) (zB (zU 1) zZ))) gN gO [none,none,some (zY a)] gs (pairs #[rs,9] (rs.map λ_=>.int 1)) Z=.ok out (Z++T)/\F2 (Z++T) n out (dG rs a)/\out.length<=↑4:=by
 intro rs;induction rs with
 |nil=>exact λZ _ _ _=>(Z2 ([]) ([]) (by rw[aN];rfl) (λ_ _ _ _=>{[],rfl,.nil}) (à _))
 |cons r rs v=>
  intro Z hs h3 hv
  have st:stay gs Z:=by have:=hs [];rwa [aN]at this
  have E: ∀(q:Rw) Y,yE (.val (zY q)) #[0,5] Y=.ok _ Y:=λ_ _=>rfl;have B: ∀(q:Rw) Y,yE (.val (zY q)) #[1,5] Y=.ok _ Y:=λ_ _=>rfl;have s:gN [some (zY r),#[1,0],some (zY a)] Z=.ok (decide (r.1=a.1)) Z:=by unfold gN;exists 7,E
  have b:=λq D=>hv q (mO _ D);unfold dG;rw[List.filter_cons];by_cases e:r.1=a.1
  .have u:=zEY (S:=Z) C.1 (hv r mF0) #[];rw[dT0 e]at s;rw[iP (dT0 e),Ĳ]
   cases z:fG a.2 r.2 []with
   |none=>
    rw[z]at u;refine(v Z hs h3 b).b λout T j m A=>?_
    exact(Z2 _ T (aZ rfl s (by unfold gO;exists 7,B,u) st j) (λw gs hs k=>
     let ⟨o,x,y⟩:=m w gs hs k
     (Z3 o (Gu rfl (by exists 7,show∀Y,DY _ _ Y=.ok _ Y from λ_=>rfl) hs x) y)) (by rw[lC,lC];lia))
   |some G=>
    rw[z]at u;dsimp only at u;refine(v (Z++[.dic G]) (λT=>by rw[aA];exact hs _) (by rw[lA];lia) b).b λout T j m A=>?_;rw[aA]at j m
    exact(Z2 _ (.dic G::T) (aZ rfl s (by unfold gO;exists 7,B,u) (hs _) j) (λw gs hs k=>
     let ⟨o,x,y⟩:=m w gs hs k
     (Z3 _ (aZ rfl (by exists 7,show∀Y,DY _ _ Y=.ok _ Y from λ_=>rfl) rfl hs x) (.cons h3 (k _ _ (wW _ _ _)) y))) (by rw[lC,lC];lia))
  .rw[dF0 e]at s;rw[iN (by simpa using e)];refine(v Z hs h3 b).b λout T j m A=>?_;exact Z2 out T (Gu rfl s st j) m (by rw[lC];lia)
end
theorem zFB(D:SqM S mr #[rows,9])(b:S[lm]? =some (.lst (rows.map λ_=>.int 1)))(B: ∀r∈rows, ∀c∈r.2,VS c)(E:rows.length<=1000)(G:(∀d∈a.2,gQ d)/\a.2.length<=4):
  ∃T j,zC 3 CV [.val mr,#[lm,1],.val (zY a)] S=#[j,S++T,2]/\Fts (S++T) ↑2 1 j (dG rows a):=by
 obtain⟨gs,hs,m⟩: ∃gs,(∀T,stay gs (S++T))/\A6 [.val mr,#[lm,1]] S=.ok {pairs #[rows,9] _,gs} S:=by
  unfold A6 srcOf;rcases D with rfl|⟨l,rfl,hS⟩
  .exact{[_],λT=>yG (zI b),by dsimp only;rw[b];rfl}
  .refine{[_,_],λT q s=>?_,by dsimp only;rw[hS,b];rfl};simp only[mC,nM,or_false]at s;rcases s with rfl|rfl
   .exact zI hS
   .exact zI b
 refine(Qw G rows S hs (à _) B).b λout T w H I=>?_
 have o: ∀(rs:List Rw),(pairs #[rs,9] (rs.map λ_=>MV.int 1)).length=rs.length:=λrs=>by
  induction rs with
  |nil=>rfl
  |cons r rs ih=>show(pairs #[rs,9] _).length+1=_;rw[ih];rfl
 refine(H (S++T++[.lst out]) _ (yG (zF _ _)) λ_ _=>zI).a λj A u=>?_;refine(UD (F:=CV) (rs:=[.val mr,#[lm,1],.val (zY a)]) rfl (show zG (CT [some mr,#[lm],some (zY a),none] S)=#[j,S++(T++[.lst out]),2] by rw[<-aA];unfold CT;refine zW (zA (by unfold BG;simp? [m,o,show rows.length<1000000 by lia];rw[show IT 2 [2] [some mr,#[lm],some (zY a),none]=[none,none,some (zY a)]from rfl,w];simp? [];rfl) ?_);unfold BH;simp? [yV (zF _ _),show out.length<1000000 by lia];rw[show IT 2 [] [some mr,#[lm],some (zY a),some _]=[none,none]from rfl,A];simp? [])).a λy C v=>?_;refine ZX y j C ?_;rcases v with rfl|⟨rfl,hlo⟩
 .rw[<-aA];exact u
 .exact u.cut hlo (à _)
theorem GI(h: ∀d∈k,VS d):keyOk (.tup k)=true:=by
 have: ∃a,jZ k=some a/\DW a=0:=by
  induction k with
  |nil=>exact{[],CM,by rw[DW]}
  |cons d k ih=>
   refine(ih λe j=>h e (.tail _ j)).a λa b c=>?_;rcases h d (.head _)with⟨i,rfl⟩|⟨x,rfl⟩
   .exact{_,by rw[dR,lD,b];rfl,by rw[sD,c,sC];rfl}
   .exact{_,by rw[dR,lE,b];rfl,by rw[sD,c,sC];rfl}
 refine this.a λa b c=>?_;unfold keyOk;rw[lF,b];show(FB _&&decide _)=true;rw[iU,c];rfl
noncomputable def kd(P:zA0):Ev:=P.map λk=>(.tup k,.int 1)
theorem Hb(P):(kd P).map (·.1)=P.map MV.tup:=by unfold kd;rw[Ă];rfl
def XO(P)(k):look (kd P) (.tup k)=if k∈P then #[1,0]else none:=by
 induction P with
 |nil=>rfl
 |cons j P ih=>
  show look (_::kd P) _=_;rw[xE,ih];by_cases e:j=k
  .subst e;rw[iP rfl,iP mF0]
  .rw[iN (λz=>e (MV.tup.inj z))];by_cases h:k∈P
   .rw[iP h,iP (mO _ h)]
   .rw[iN h,iN λz=>(mC.mp z).elim (λz=>e z.symm) h]
theorem Qx(P)(k):putK (kd P) (.tup k) (.int 1)=kd (qZ P k):=by
 unfold putK qZ;rw[XO];by_cases h:k∈P
 .rw[iP h,iP h];unfold kd;rw[Ă];refine ĳ λj _=>?_;show(if MV.tup j=.tup k then _ else _)=_;split<;>rfl
 .rw[iN h,iN h];unfold kd;rw[ù];rfl
theorem GK(h:S[l]? =#[kd P,7]):kO S #[l,1]=some (l,kd P):=by unfold kO;dsimp only;rw[h];dsimp only;rw[iP];rw[ü];intro p a;refine(mM.mp a).a λr b j=>?_;subst j;rfl
def bR(xs:Ch)(G:Ev):List MV:=xs.map (GM G)
def Hc(xs:Ch)(a:List Ev)(P:zA0):List (List MV):=a.foldl (λP G=>qZ P (bR xs G)) P
def Has(xs:Ch)(G:Ev):Prop:=GH G/\ ∀x∈xs,look G (.str x)≠none
def Has.vs(h:Has xs G): ∀d∈bR xs G,VS d:=λd hd=>by
 refine(mM.mp hd).a λx a b=>?_;subst b
 cases z:look G _ with
 |none=>exact absurd z (h.2 x a)
 |some c=>rw[oM z];exact XM h.1 z
noncomputable abbrev CU(lf:Nat)(m:MV)(n:Nat)(a b c:R0):Rho:=[#[lf],some m,#[n],a,b,c]
section
theorem Yw(O:B[lf]? =#[all,2])(L:SqM B m #[xs,8])(M:↑7<1000)(E:Fts B n0 1 ws Gs): ∀ P  a b c ,(∀G∈Gs,Has xs G)->P.length+Gs.length<100000->
  ∃I u D,wO (aM 2 (zB (zU 3) (zB (zU 4) zZ))) MQ [(lf,all)] ws (CU lf m B.length a b c) (B++[.dic (kd P)])=#[CU lf m B.length I u D,B++[.dic (kd (Hc xs Gs P))],0]:=by
 induction E with
 |nil=>exact λP a b c _ _=>(Zj a b c rfl)
 |@cons e G ws Gs _ he E ih=>
  intro P a b c F N;rw[lC]at N;have q:=F G mF0;obtain⟨Z,o⟩: ∃Z,Z=B++[MO.dic (kd P)]:={_,rfl}
  have C:zC 2 yY [.val _,.val m] Z=.ok #[bR xs G,6] Z:=Ha (show Z[e]? =_ by rw[o];exact zI he) q.1 (by rw[o];exact L.app) q.2 M;have j:=GK (S:=Z) (l:=B.length) (P:=P) (by rw[o];exact zF _ _)
  have A:vD #[B.length,1] [#[bR xs G,6],#[0,5]] Z=.ok #[if bR xs G∈P then 1 else 0,5] Z:=by
   unfold vD;dsimp only;rw[j];dsimp only;rw[iP (GI q.vs),XO];by_cases h:bR xs G∈P
   .rw[iP h,iP h]
   .rw[iN h,iN h]
  have v: ∀Y,Kf #[if bR xs G∈P then 1 else 0,5] #[1,5] Y=.ok #[1,5] Y:=λY=>by split<;>rfl
  have y: ∀s,HA #[B.length,1] #[bR xs G,6] (.int 1) s Z=.ok s _:=λs=>by unfold HA;dsimp only;rw[j];dsimp only;rw[iP {GI q.vs,by unfold kd;rw[lM];lia},Qx,o,oI]
  have w:oV #[B.length,1] Z=true:=by unfold oV;rw[j];rfl
  have J:=rV P (bR xs G);refine(ih (qZ P (bR xs G)) #[e] #[1,0] #[bR xs G,3] (λK H=>F K (mO _ H)) #[]).h λI u D h=>?_;rw[<-o];exact Zj I u D ((yC rfl (by unfold MQ;refine zA (by unfold JR;simp? [C];rfl) ?_;unfold JS;simp? [w,A,v,MU,y]) (yG (zI O))).trans h)
end
noncomputable def jW(xs:Ch)(k:Q0):Ev:=(xs.map MV.str).zip k
theorem QI: ∀(ps j:Ev),((j++ps).map (·.1)).Nodup->ps.foldl (λj p=>putK j p.1 p.2) j=j++ps
 |[],j,_=>by rw[aN];rfl
 |p::ps,j,h=>by
  have m:look j p.1=none:=by
   cases z:look j p.1 with
   |none=>rfl
   |some d=>
    refine(Qs z).a λq a e=>?_;rw[ù,Ŀ]at h;exact absurd e (h.2.2 q.1 (ľ a) p.1 (by rw[ç];exact mF0))
  rw[ņ,QG m,QI ps _ (by rw[aA];exact h),aA];rfl
def zAF(h:xs.Nodup): ∀k:List MV,((jW xs k).map (·.1)).Nodup:=λk=>by
 have c:(xs.map MV.str).Nodup:=by unfold List.Nodup at h ⊢;rw[pairwise_map];exact h.imp λne e=>ne (MV.str.inj e)
 have: ∀(as bs:Q0),as.Nodup->((as.zip bs).map (·.1)).Nodup:=λas=>by
  induction as with
  |nil=>intro bs _;simp
  |cons a as ih=>
   intro bs c
   cases bs with
   |nil=>simp
   |cons b bs=>
    rw[nodup_cons]at c;rw[į,ç,nodup_cons];refine{λz=>c.1 ?_,ih bs c.2};refine(mM.mp z).a λp j e=>?_;have:=(of_mem_zip j).1;rw[e]at this;exact this
 exact this _ k c
def B4(j:SqM Z m #[xs,8])(c:xs.Nodup):Y3 [.val m,#[k,6]] Z=.ok #[Z.length,1] (Z++[.dic (jW xs k)]):=by
 have b:(xs.map MV.str).all sM=true:=by rw[ü];intro d hd;refine(mM.mp hd).a λx _ o=>?_;subst o;rfl
 have a:Ge ((xs.map MV.str).zip k)=jW xs k:=by have:=QI _ [] (by rw[ī];exact zAF c k);exact this
 unfold Y3;rcases j with rfl|⟨l,rfl,hl⟩
 .show(if(xs.map MV.str).all sM=true then R.ok _ _ else .no)=_;rw[iP b,a]
 .have e:srcOf Z #[l,1]=some {true,xs.map MV.str,[(l,xs.map MV.str)]}:=by unfold srcOf;dsimp only;rw[hl]
  dsimp only;rw[e];show(if(xs.map MV.str).all sM=true then R.ok _ _ else .no)=_;rw[iP b,a]
theorem Az(b:xs.Nodup): ∀ P  Z ,SqM Z m #[xs,8]->n<=Z.length-> ∃out T,zV (aM 2 (zB (zU 0) (zB (zU 1) zZ))) JT rP [none,none,some m] [] ((kd P).map λj=>.tup [j.1,j.2]) Z=.ok out (Z++T)/\Fts (Z++T) n 1 out (P.map (jW xs))
 |[],Z,_,_=>(ZX ([]) ([]) (by rw[aN];rfl) .nil)
 |k::P,Z,hm,hl=>by
  have q:rP [#[k,3],#[1,0],some m] Z=.ok #[[.loc Z.length,.int 1],6] (Z++[.dic (jW xs k)]):=by unfold rP;exists 7,B4 hm b
  obtain⟨out,T,a,c⟩:=Az (n:=n) b P (Z++[.dic _]) hm.app (by rw[lA];lia);refine ZX (.tup [.loc Z.length,.int 1]::out) (.dic (jW xs k)::T) ?_ (.cons hl (wW _ _ _) (by rw[aA]at c;exact c));rw[aA]at a;exact aZ rfl rfl q (yU _) a
def vM(xs:Ch)(a:List Ev):List Ev:=(Hc xs a []).map (jW xs)
theorem zFC(w:B[lf]? =#[ws,2])(s:SqM B m #[xs,8])(E:↑7<1000)(C:xs.Nodup)(D:Fts B n0 1 ws j)(F: ∀G∈j,Has xs G)(I:j.length<10000):
  ∃out T,Ah [.loc lf,m] B=#[out,B++T,2]/\Fts (B++T) B.length 1 out (vM xs j):=by
 refine(Yw w s E D [] none none none F (by simp only[ă];lia)).h λa b c h=>?_;obtain⟨P,q⟩: ∃P,P=Hc xs j []:={_,rfl}
 rw[<-q]at h
 have y:P.length<=j.length:=by
  rw[q]
  have: ∀(j:List Ev)(P:zA0),(Hc xs j P).length<=P.length+j.length:=λj=>by
   induction j with
   |nil=>intro P;exact à _
   |cons G j ih=>
    intro P;have J:=ih (qZ P (bR xs G));have H:=rV P (bR xs G);show(Hc xs j _).length<=_;rw[lC]
    lia
  have:=this j [];rw[ă]at this
  lia
 have o:WG #[B.length,1] (B++[.dic (kd P)])=.ok {(kd P).map λu=>.tup [u.1,u.2],[]} (B++[.fdc (kd P)]):=by unfold WG;rw[GK (zF B (.dic (kd P)))];dsimp only;rw[oI]
 refine(Az (n:=B.length) C P (B++[.fdc (kd P)]) s.app (by simp)).d λout T A v=>?_;refine ZX out _ ?_ (by rw[vM, <-q];rw[aA]at v;exact v);show zG (Gk [#[lf],some m,none,none,none,none] B)=_;unfold Gk;refine zW (zA (by unfold WK;simp? [KW];rfl) (zA (by unfold WL;simp? [yV (zI w)];exact h) ?_));unfold WM;simp? [o,lM,show(kd P).length<1000000 by unfold kd;rw[lM];lia];rw[show IT 2 [1] _=[none,none,some m]from rfl,A];simp? [];rw[aA]
def zAG(h:S[l]? =#[E,7])(c:GH E)(h':S[m]? =#[F,7])(b:GH F)(a:l≠m)(hz:E.length+F.length<1000000):OZ #[l,1] [#[m,1]] S=#[.non,S.set l (.dic (kP E F)),1]:=by unfold OZ;dsimp only;rw[LM h c,LM h' b];dsimp only;rw[iP ⟨a,hz⟩]
abbrev OD:=MV×Ev
open Classical in
def Hd(xs:Ch)(a:List OD)(k:Q0):List OD:=a.filter λD=>decide (bR xs D.2=k)
def rY(xs)(Ds)(D)(k):Hd xs (Ds++[D]) k=if bR xs D.2=k then Hd xs Ds k++[D]else Hd xs Ds k:=by
 unfold Hd;rw[List.filter_append,List.filter_cons];by_cases e:bR xs D.2=k
 .rw[iP (dT0 e),iP e];rfl
 .rw[iN (by simpa using e),iN e,List.filter_nil,aN]
structure JI(B:Sto)(xs:Ch)(Ds:List OD)(bd:Ev)(Z:Sto):Prop where
 ex: ∃T,Z=B++.dic bd::T
 at': ∀k d,look bd (.tup k)=some d-> ∃l,d=.loc l/\B.length<l/\Z[l]? =#[(Hd xs Ds k).map (·.1),2]
 no: ∀k,look bd (.tup k)=none->Hd xs Ds k=[]
 inj: ∀k k' l,look bd (.tup k)=#[l]->look bd (.tup k')=#[l]->k=k'
 tk:bd.all (λp=>FB p.1)=true
 ln:bd.length<=Ds.length
section
def JI.dic(J:JI B xs Ds bd Z):kO Z #[B.length,1]=some (B.length,bd):=by obtain⟨T,rfl⟩:=J.ex;unfold kO;dsimp only;rw[wW];dsimp only;rw[iP J.tk]
def JI.old(J:JI B xs Ds bd Z){l:Nat}(h:B[l]? =some o):Z[l]? =some o:=by obtain⟨T,rfl⟩:=J.ex;rw[ã (gS.mp h).1];exact h
theorem JI.put(J:JI B xs Ds bd Z)(D)(hk: ∀d∈bR xs D.2,VS d)(hl:Ds.length<10000):
  ∃U Z' l Y ds,zBH #[B.length,1] [#[bR xs D.2,6],.new []] Z=.ok #[l,1] Y/\Y[l]? =#[ds,2]/\↑11<=Ds.length/\Y.set l (.lst (ds++[D.1]))=Z'/\JI B xs (Ds++[D]) U Z':=by
 obtain⟨k,b⟩: ∃k,k=bR xs D.2:={_,rfl}
 have H:keyOk (.tup k)=true:=by rw[b];exact GI hk
 have J0:=J;obtain⟨T,C⟩:=J.ex;have Q:kM (.new []) Z=.ok (.loc Z.length) (Z++[.lst []]):=rfl;have O:kO (Z++[.lst []]) #[B.length,1]=some (B.length,bd):=by unfold kO;dsimp only;rw[C,aA,List.cons_append,wW];dsimp only;rw[iP J.tk]
 have aa:=J.ln;have c:zBH #[B.length,1] [#[k,6],.new []] Z=match look bd (.tup k)with |some d=>#[d,Z++[.lst []],1]|none=>.ok #[Z.length,1] ((Z++[MO.lst []]).set B.length (.dic (putK bd (.tup k) (.loc Z.length)))):=by unfold zBH;dsimp only;rw[Q,jO];unfold zDU;rw[O];dsimp only;refine(iP {H,by lia}).trans ?_;cases look bd (.tup k)<;>rfl
 have m: ∀{j:Nat}{o:MO},Z[j]? =some o->j<Z.length:=λh=>(gS.mp h).1;have E: ∀j,(Hd xs Ds j).length<=Ds.length:=λj=>ĝ _ _;rw[<-b]
 cases z:look bd (.tup k)with
 |some d=>
  rw[z]at c;refine(J.at' k d z).c λl V h1 N=>?_;subst V;have G:=m N;refine{bd,_,l,_,_,c,by rw[ã G];exact N,by rw[lM];exact E k,rfl,?_,λj d a=>?_,λj a=>?_,J.inj,J.tk,by rw[lA];lia}
  .refine{(T++[MO.lst []]).set (l - B.length - 1) (.lst ((Hd xs Ds k).map (·.1)++[D.1])),?_};rw[C,aA,Ą _ _ #[],List.cons_append,show l - B.length=(l - B.length - 1)+1 by lia,set_cons_succ];rfl
  .refine(J.at' j d a).c λA ac K y=>?_;subst ac;refine{A,rfl,K,?_};by_cases e:j=k
   .subst e;rw[z]at a;cases a;rw[get_set (by rw[ã G];exact N),rY,iP b.symm,ù];rfl
   .have W:l≠A:=λq=>e (J.inj j k A a (q▸z));rw[GC W,ã (m y),y,rY,iN (λq=>e (q.symm.trans b.symm))]
  .rw[rY,iN (λq=>by rw[<-b]at q;rw[<-q,z]at a;cases a)];exact J.no j a
 |none=>
  rw[z]at c;dsimp only at c;have I:putK bd (.tup k) (.loc Z.length)=bd++[(.tup k,.loc Z.length)]:=QG z;have S:B.length<Z.length:=by rw[C];simp
  have F: ∀q,(Z++[MO.lst []]).set B.length q=B++q::(T++[MO.lst []]):=λq=>by rw[C,aA,List.cons_append,Ą _ _ (à _),sub_self];rfl
  rw[I,F]at c;have w:Z.length=B.length+(T.length+1):=by rw[C,lA,lC]
  have M:(B++MO.dic (bd++[(.tup k,.loc Z.length)])::(T++[.lst []]))[Z.length]? =#[[],2]:=by rw[w,æ #[],show B.length+(T.length+1) - B.length=T.length+1 by lia,ğ,zF]
  have u:(B++MO.dic (bd++[(.tup k,.loc Z.length)])::(T++[.lst []])).set Z.length (.lst ([]++[D.1]))=B++.dic (bd++[(.tup k,.loc Z.length)])::(T++[.lst [D.1]]):=by rw[w,Ą _ _ #[],show B.length+(T.length+1) - B.length=T.length+1 by lia,set_cons_succ,oI];rfl
  have s: ∀j,look (bd++[(MV.tup k,MV.loc Z.length)]) (.tup j)=(look bd (.tup j)).or (if k=j then #[Z.length]else none):=λj=>by
   rw[iS];congr 1;by_cases e:k=j
   .rw[iP e,iP (by rw[e])]
   .rw[iN e,iN λq=>e (MV.tup.inj q)]
  have v: ∀{j:Nat}{o:MO},Z[j]? =some o->B.length<j->(B++MO.dic (bd++[(.tup k,.loc Z.length)])::(T++[.lst [D.1]]))[j]? =some o:=λ{j o} h a=>by have:=m h;rw[C,æ #[],show j - B.length=(j - B.length - 1)+1 by lia,ğ]at h;rw[æ #[],show j - B.length=(j - B.length - 1)+1 by lia,ğ,ã (gS.mp h).1];exact h
  refine{_,_,Z.length,_,[],c,M,zero_le _,u,{_,rfl},λj d a=>?_,λj a=>?_,λj X l h1 N=>?_,by rw[List.all_append,J.tk];rfl,by rw[lA,lA];simp;lia}
  .rw[s]at a
   cases L:look bd (.tup j)with
   |some d'=>
    rw[L]at a;cases a;refine(J.at' j _ L).c λA am K y=>?_;subst am;have P: ¬k=j:=λq=>by rw[q,L]at z;cases z
    refine{A,rfl,K,?_};rw[v y K,rY,iN (by rw[<-b];exact P)]
   |none=>
    rw[L,Option.none_or]at a;by_cases e:k=j
    .rw[iP e]at a;cases a;refine{_,rfl,S,?_};rw[rY,iP (by rw[<-b];exact e),J.no j L,w,æ #[],show B.length+(T.length+1) - B.length=T.length+1 by lia,ğ,zF];rfl
    .rw[iN e]at a;cases a
  .rw[s]at a;rw[rY, <-b,iN (λe=>by grind)];exact J.no j (by grind)
  .rw[s]at h1 N;have lt: ∀{i:Q0},look bd (.tup i)=#[l]->l<Z.length:=λh=>by refine(J.at' _ _ h).c λA e K y=>?_;cases e;exact m y
   have:=J.inj j X l;have:=@lt j;have:=@lt X;clear lt m J J0 hk H M u v c F s E
   grind
end
noncomputable abbrev B5(lf lo':Nat)(m:MV)(n:Nat)(a b:R0)(t v k c:R0):Rho:=[#[lf],#[lo'],some m,#[n],a,b,t,v,k,c]
section
theorem zAH(L:B[lo']? =#[all,2])(N:SqM B m #[xs,8])(O:↑7<1000)(w:Fts B n0 1 ws Ms): ∀ q  u  Z  a b ,(∀M∈Ms,Has xs M)->JI B xs q u Z->q.length+Ms.length<10000->
  ∃j v T D,JI B xs (q++ws.zip Ms) j v/\wO (aM 2 (zB (zU 4) (zB (zU 5) zZ))) tV [(lo',all)] ws (B5 lf lo' m B.length a b none none none none) Z=#[B5 lf lo' m B.length T D none none none none,v,0]:=by
 induction w with
 |nil=>exact λq u Z a b _ J _=>(ZB u Z a b {(by rw[zip_nil_left,aN];exact J),rfl})
 |@cons e M ws Ms _ he w ih=>
  intro q u Z a b C J Q;rw[lC]at Q;have o:=C M mF0;have s:zC 2 yY [.val _,.val m] Z=.ok #[bR xs M,6] Z:=Ha (J.old he) o.1 (N.imp id λ⟨l,h,h'⟩=>{l,h,J.old h'}) o.2 O;refine(J.put (.tup [.loc e,.int 1],M) o.vs #[]).r λj v l U S p1 p2 p3 F y=>?_;refine(ih _ j v #[e] #[1,0] (λK E=>C K (mO _ E)) y (by rw[lA,lS];lia)).j λc G P I k=>k.elim λA H=>?_;exact ZB c G P I {(by rw[aA]at A;exact A),(yC rfl (by unfold tV tU;simp? [show oV #[B.length,1] Z=true by unfold oV;rw[J.dic];rfl,s,p1,xD p2,tup2,wM p2 #[]];rw[F]) (yG (y.old L))).trans H}
end
section
theorem B6(hG:Z1[eG]? =#[G,7])(v:GH G)(Q:G.length<=1000)(s: ∀Y,AG #[mg,5] #[1,5] Y=.ok #[1,5] Y)(I: ∀q∈gs,Z1[q.1]? =#[q.2,2]): ∀(B:List OD) ws  Es  T  a b c ,(∀D∈B, ∃e,D.1=.tup [.loc e,.int 1]/\Z1[e]? =#[D.2,7]/\GH D.2/\D.2.length<=1000)->Fts (Z1++.lst ws::T) Z1.length 1 ws Es->ws.length+B.length<100000->
  ∃u J a' L O,Fts (Z1++.lst u::J) Z1.length 1 u (Es++B.map λD=>kP G D.2)/\u.length=ws.length+B.length/\wO (aM 2 (zB (zU 4) (zB (zU 5) zZ))) mH gs (B.map (·.1)) (B5 lf lo' m nb a b #[Z1.length] #[eG] #[mg,0] c) (Z1++.lst ws::T)=#[B5 lf lo' m nb a' L #[Z1.length] #[eG] #[mg,0] O,(Z1++.lst u::J),0]
 |[],ws,Es,T,a,b,c,_,hF,_=>(Yi ws T a b c {(by rw[List.map_nil,aN];exact hF),rfl,rfl})
 |D::B,ws,Es,T,a,b,c,hD,hF,hl=>by
  rw[lC]at hl;refine(hD D mF0).elim λe k=>k.g λhe hM hMo hMl=>?_;obtain⟨Z,K⟩: ∃Z,Z=Z1++MO.lst ws::T:={_,rfl}
  have P: ∀{U:Sto}{l:Nat}{o:MO},Z1[l]? =some o->(Z1++U)[l]? =some o:=λh=>by rw[ã (gS.mp h).1];exact h
  obtain⟨N,hN⟩: ∃N,N=Z.length:={_,rfl}
  have A:N=Z1.length+(T.length+1):=by rw[hN,K,lA,lC]
  have M:N≠e:=by have:=(gS.mp hM).1;lia
  have X:Z++[MO.dic G]=Z1++.lst ws::(T++[.dic G]):=by rw[K,aA];rfl
  have y: ∀(vs:Q0)(E:Ev),(Z1++MO.lst vs::(T++[.dic E]))[N]? =#[E,7]:=λvs E=>by rw[A,æ #[],show Z1.length+(T.length+1) - Z1.length=T.length+1 by lia,ğ,zF]
  have ae: ∀(vs:Q0)(E E':Ev),(Z1++MO.lst vs::(T++[.dic E])).set N (.dic E')=Z1++MO.lst vs::(T++[.dic E']):=λvs E E'=>by rw[A,Ą _ _ #[],show Z1.length+(T.length+1) - Z1.length=T.length+1 by lia,set_cons_succ,oI]
  have H:Dk [#[eG,1]] Z=.ok #[N,1] (Z1++.lst ws::(T++[.dic G])):=by rw[zAD (by rw[K];exact P hG) v,X,hN]
  have ab:OZ #[N,1] [#[e,1]] (Z1++.lst ws::(T++[.dic G]))=#[.non,(Z1++.lst ws::(T++[.dic (kP G D.2)])),1]:=by rw[zAG (y ws G) v (P hM) hMo M #[],ae]
  have af:Dg #[N,1] (Z1++.lst ws::(T++[.dic G]))=true:=XN (y ws G) v;have C: ∀(vs:Q0)(U:Sto),(Z1++MO.lst vs::U)[Z1.length]? =#[vs,2]:=λvs U=>wW _ _ _;have aa:rH #[Z1.length,1] [#[[.loc N,.int 1],6]] (Z1++.lst ws::(T++[.dic (kP G D.2)]))=#[.non,(Z1++.lst (ws++[.tup [.loc N,.int 1]])::(T++[.dic (kP G D.2)])),1]:=by rw[wM (C _ _) (show ws.length<1000000 by lia),XC]
  have hb:mH (B5 lf lo' m nb #[e] #[1,0] #[Z1.length] #[eG] #[mg,0] c) Z=#[B5 lf lo' m nb #[e] #[1,0] #[Z1.length] #[eG] #[mg,0] #[N],(Z1++.lst (ws++[.tup [.loc N,.int 1]])::(T++[.dic (kP G D.2)])),0]:=by unfold mH tW;unfold iJ;rw[show bJ (dJ AG (vJ 8) (vJ 5)) sH _ Z=.ok true Z by simp? [s];rfl,jO,iP rfl];rw[yI (F:=CJ _ 9) (S':=Z1++.lst ws::(T++[.dic G])) (by exists 7,H)];rw[yI (F:=BJ _) (S':=Z1++.lst ws::(T++[.dic (kP G D.2)])) (by exists 7,af,ab)];exists 7,xD (C ws (T++[.dic (kP G D.2)])),s,aa
  have W:Fts (Z1++.lst (ws++[.tup [.loc N,.int 1]])::(T++[.dic (kP G D.2)])) Z1.length 1 (ws++[.tup [.loc N,.int 1]]) (Es++[kP G D.2]):=by
   refine Fts.snoc #[] (y _ _) (hF.move λj E w=>?_);by_cases e1:j<Z1.length
   .rw[ã e1]at w ⊢; exact w
   .rw[æ #[]]at w ⊢
    cases q:j - Z1.length with
    |zero=>rw[q]at w;cases w
    |succ i=>
     rw[q,ğ]at w;rw[ğ,ã (gS.mp w).1];exact w
  obtain⟨u,J,a',L,O,g1,g2,g3⟩:=B6 hG v Q s I B (ws++[.tup [.loc N,.int 1]]) (Es++[kP G D.2]) (T++[.dic (kP G D.2)]) #[e] #[1,0] #[N] (λq S=>hD q (mO _ S)) W (by rw[lA,lS];lia);refine Yi u J a' L O {(by rw[aA]at g1;exact g1),(by rw[g2,lA,lS,lC];lia),?_};rw[ç,he, <-K,yC rfl hb (λq S=>P (I q S))];exact g3
end
def joinM(xs:Ch)(b:List Ev)(a:List OD):List Ev:=b.flatMap λG=>(Hd xs a (bR xs G)).map λD=>kP G D.2
section
theorem zAI(J:JI B xs Ds bd Z1)(M: ∀D∈Ds, ∃e,D.1=.tup [.loc e,.int 1]/\B[e]? =#[D.2,7]/\GH D.2/\D.2.length<=1000)(ab:Ds.length<=1000)(hf:B[lf]? =#[all,2])(hm:SqM B m #[xs,8])(hx:↑7<1000)(s: ∀Y,AG #[mg,5] #[1,5] Y=.ok #[1,5] Y):
  ∀{L}{I},Fts B n0 mg L I->(∀G∈I,Has xs G/\G.length<=1000)-> ∀ ts  u  T  a b v k c ,Fts (Z1++.lst ts::T) Z1.length 1 ts u->ts.length+Ds.length * I.length<50000->
  ∃j T' a' b' v' k' c',Fts (Z1++.lst j::T') Z1.length 1 j (u++joinM xs I Ds)/\wO (aM 2 (zB (zU 7) (zB (zU 8) zZ))) tY [(lf,all)] L (B5 lf lo' m B.length a b #[Z1.length] v k c) (Z1++.lst ts::T)=#[B5 lf lo' m B.length a' b' #[Z1.length] v' k' c',(Z1++.lst j::T'),0]:=λW=>by
 induction W with
 |nil=>exact λ_ ts u T a b v k c E _=>(Yg ts T a b v k c {(by show Fts _ _ _ _ (u++[]);rw[aN];exact E),rfl})
 |@cons e G L I _ he W ih=>
  intro hG ts u T a b v k c E hl;rw[lC,Nat.mul_succ]at hl;obtain⟨C,O⟩:=hG G mF0;obtain⟨Z,H⟩: ∃Z,Z=Z1++MO.lst ts::T:={_,rfl}
  have A: ∀{l:Nat}{o:MO},Z1[l]? =some o->Z[l]? =some o:=λh=>by rw[H];exact zI h
  have S:zC 2 yY [#[e,1],.val m] Z=.ok #[bR xs G,6] Z:=Ha (A (J.old he)) C.1 (hm.imp id λ⟨l,h,h'⟩=>{l,h,A (J.old h')}) C.2 hx;have y:Z[B.length]? =#[bd,7]:=by refine A ?_;obtain⟨T0,h0⟩:=J.ex;rw[h0];exact wW _ _ _
  have w:kO Z #[B.length,1]=some (B.length,bd):=by unfold kO;dsimp only;rw[y];dsimp only;rw[iP J.tk]
  have P:oV #[B.length,1] Z=true:=by unfold oV;rw[w];rfl
  have F: ∃r gs,vD #[B.length,1] [#[bR xs G,6],.new []] Z=.ok r Z/\vI r Z=.ok {(Hd xs Ds (bR xs G)).map (·.1),gs} Z/\ ∀q∈gs,Z1[q.1]? =#[q.2,2]:=by
   unfold vD;dsimp only;rw[w];dsimp only;rw[iP (GI C.vs)]
   cases z:look bd _ with
   |none=>
    refine Z2 _ ([]) rfl ?_ (by simp);rw[J.no _ z];rfl
   |some d=>
    refine(J.at' _ _ z).c λl ac h1 X=>?_;subst ac;exact Z2 _ _ rfl (yV (A X)) (λq hq=>by rw[mS.mp hq];exact X)
  refine F.b λr gs d1 d2 d3=>?_;have aa:(Hd xs Ds (bR xs G)).length<=Ds.length:=ĝ _ _;obtain⟨N,T1,a1,b1,c1,g1,g2,g3⟩:=B6 (J.old he) C.1 O s d3 (Hd xs Ds (bR xs G)) ts u T a b c (λD hD=>by refine(M D (Ē.mp hD).1).c λe' x1 x2 x3=>?_;exact Z0 e' x1 (J.old x2) x3) E #[];refine(ih (λK hK=>hG K (mO _ hK)) N _ T1 a1 b1 #[e] #[mg,0] c1 g1 #[]).v λQ T2 a2 b2 v2 k2 c2 V=>V.elim λU f2=>?_;exact Yg Q T2 a2 b2 v2 k2 c2 {(by rw[aA]at U;exact U),(yC rfl (by unfold tY tX;rw[<-H];simp? [P,S,d1,d2];rw[H];exact g3) (yG (zI (J.old hf)))).trans f2}
end
def He{mk:Int}(h:Fts B n mk ws Ms): ∀D∈ws.zip Ms,D.2∈Ms/\ ∃e,D.1=.tup [.loc e,.int mk]/\B[e]? =#[D.2,7]:=by
 induction h with
 |nil=>exact λD h=>(nomatch h)
 |cons _ b _ ih=>exact λD a=>(mC.mp a).elim (λz=>z▸{.head _,_,rfl,b}) λz=>{.tail _ (ih D z).1,(ih D z).2}
theorem jn_f{c:Q0}(w:B[lf]? =#[fs,2])(C:B[lo']? =#[c,2])(E:SqM B m #[xs,8])(F:↑7<1000)(I:Fts B n0 mg fs Gs)(H:Fts B n1 1 c Ms)(Q: ∀G∈Gs,Has xs G/\G.length<=1000)(u: ∀M∈Ms,Has xs M/\M.length<=1000)(U:Ms.length<=1000)(j:Ms.length * Gs.length<50000)
  (hband: ∀Y,AG #[mg,5] #[1,5] Y=.ok #[1,5] Y):
  ∃l T ts,HQ [.loc lf,.loc lo',m] B=.ok #[l,1] (B++T)/\B.length<l/\(B++T)[l]? =#[ts,2]/\Fts (B++T) l 1 ts (joinM xs Gs (c.zip Ms)):=by
 have v:JI B xs [] [] (B++[.dic []]):={{[],rfl},(λk d h=>by cases h),(λk _=>rfl),(λk K l h=>by cases h),rfl,à _}
 refine(zAH (lf:=lf) C E F H [] [] (B++[.dic []]) none none (λM h=>(u M h).1) v (by simp only[ă];lia)).j λN q a b V=>V.elim λJ e=>?_;rw[ī]at J;have s:(c.zip Ms).length<=Ms.length:=by rw[ļ];lia
 refine(zAI (lo':=lo') J (λD O=>by obtain⟨x,e,y,z⟩:=He H D O;exact{e,y,z,(u _ x).1.1,(u _ x).2}) #[] w E F hband I Q [] [] [] a b none none none .nil (by rw[ă,Nat.zero_add];exact ŋ (Nat.mul_le_mul_right _ s) j)).v λts T a' W Z K X a0=>a0.elim λP L=>?_;obtain⟨S,A⟩:=J.ex;have o:q++MO.lst ts::T=B++(.dic N::S++.lst ts::T):=by rw[A,aA]
 refine Ze q.length _ ts ?_ (by rw[A];simp) (by rw[<-o];exact wW _ _ _) (by rw[<-o];exact P);show zG (HP [#[lf],#[lo'],some m,none,none,none,none,none,none,none] B)=_;rw[<-o];unfold HP;exact zW (zA (by unfold FU;simp? [KW];rfl) (zA (by unfold FV;simp? [yV (v.old C)];exact e) (zA (S':=q++.lst []::[]) (by unfold FW;simp? [jO];rfl) (zA (by unfold FX;simp? [yV (zI (J.old w))];exact L) (by rfl)))))
def Lc(σ:List Nat->MV)(t:MV):MV:=match vn t with |some x=>σ x|none=>isv t
def HZ(σ)(x):Lc σ (.tup [.str UB,.str x])=σ x:=by unfold Lc;rw[JZ]
theorem QJ(σ)(v):Lc σ (.tup [.str IS,v])=v:=by unfold Lc;rw[QE];rfl
theorem DL: ∀ ts cs  F G ,fG ts cs F=some G->ts.length=cs.length->(∀t∈ts,gQ t)->(∀x d,look F (.str x)=some d->look G (.str x)=some d)/\cs=ts.map (Lc (GM G))
 |[],[],F,G,h,_,_=>by cases h;exact{λ_ _ z=>z,rfl}
 |[],_::_,_,_,_,hl,_=>by simp at hl
 |_::_,[],_,_,_,hl,_=>by simp at hl
 |t::ts,c::cs,F,G,h,hl,hT=>by
  have j:=by simpa using hl
  have a:=λu s=>hT u (mO _ s);rcases hT t mF0 with⟨x,rfl⟩|⟨v,hv,rfl⟩
  .rw[HY]at h
   cases z:look F _ with
   |none=>
    rw[z]at h;obtain⟨b,m⟩:=DL ts cs _ G h j a;have q:=b x c (by rw[iS,z,Option.none_or,iP rfl]);refine{λy d o=>b y d (by rw[iS,o];rfl),?_};rw[ç,HZ,oM q, <-m]
   |some d=>
    rw[z]at h;dsimp only at h;split at h
    .rename_i e;subst e;obtain⟨b,m⟩:=DL ts cs F G h j a;exact{b,by rw[ç,HZ,oM (b x d z), <-m]}
    .cases h
  .rw[XJ]at h;split at h
   .rename_i e;obtain⟨b,m⟩:=DL ts cs F G h j a;exact{b,by rw[ç,QJ,e, <-m]}
   .cases h
theorem IA(σ): ∀ ts  F ,(∀x d,look F (.str x)=some d->d=σ x)->(∀t∈ts,gQ t)-> ∃G,fG ts (ts.map (Lc σ)) F=some G/\ ∀x d,look G (.str x)=some d->d=σ x
 |[],F,hF,_=>(Z3 F rfl hF)
 |t::ts,F,hF,hT=>by
  have j:=λu c=>hT u (mO _ c);rcases hT t mF0 with⟨x,rfl⟩|⟨v,hv,rfl⟩
  .rw[ç,HZ,HY]
   cases z:look F _ with
   |none=>
    refine IA σ ts _ (λy d a=>?_) j;rw[iS]at a
    cases b:look F _ with
    |some d'=>rw[b]at a;cases a;exact hF y _ b
    |none=>
     rw[b]at a;split at a
     .rename_i e;cases a;cases e;rfl
     .cases a
   |some d=>
    dsimp only;rw[iP (hF x d z)];exact IA σ ts F hF j
  .rw[ç,QJ,XJ,iP rfl];exact IA σ ts F hF j
def Mt(b:List Rw)(a:Rw)(σ:List Nat->MV):Prop:=(a.1,a.2.map (Lc σ))∈b
theorem Qy(o: ∀t∈a.2,gQ t)(hw: ∀r∈rows,r.1=a.1->a.2.length=r.2.length)(h:G∈dG rows a):Mt rows a (GM G)/\(∀t∈a.2, ∀x,vn t=some x->look G (.str x)≠none):=by refine(mem_filterMap.mp h).a λr c j=>?_;obtain⟨c,b⟩:=Ē.mp c;have b:=ė b;have m:=hw r c b;obtain⟨_,q⟩:=DL _ _ _ _ j m o;refine{?_,(Gy _ _ _ _ j #[]).2};unfold Mt;rw[<-q, <-b];exact c
theorem Ld(x)(xs)(d)(k):jW (x::xs) (d::k)=(.str x,d)::jW xs k:=rfl
theorem BW(f): ∀ xs  x ,look (jW xs (xs.map f)) (.str x)=if x∈xs then some (f x)else none
 |[],x=>rfl
 |y::xs,x=>by
  rw[ç,Ld,xE,BW f xs x];by_cases e:y=x
  .subst e;rw[iP rfl,iP mF0]
  .rw[iN (λz=>e (MV.str.inj z))];by_cases h:x∈xs
   .rw[iP h,iP (mO _ h)]
   .rw[iN h,iN λz=>(mC.mp z).elim (λz=>e z.symm) h]
def ND(h:x∈xs):GM (jW xs (bR xs G)) x=GM G x:=oM (by unfold bR;rw[BW,iP h])
def XQ(h:Has xs G):GH (jW xs (bR xs G))/\ ∀x,look (jW xs (bR xs G)) (.str x)≠none↔x∈xs:=by
 refine{λp b=>?_,λx=>?_}
 .have a:=b;obtain⟨c,j⟩:=of_mem_zip a;refine(mM.mp c).a λx _ e=>?_;exact{⟨x,e.symm⟩,h.vs _ j}
 .unfold bR;rw[BW];by_cases e:x∈xs
  .rw[iP e];exact{λ_=>e,λ_ z=>by cases z}
  .rw[iN e];exact{λz=>absurd rfl z,λz=>absurd z e}
theorem IB(xs): ∀ m  P  k ,k∈Hc xs m P↔k∈P\/ ∃G∈m,k=bR xs G
 |[],P,k=>{.inl,λh=>h.elim id λ⟨G,h,_⟩=>by simp at h}
 |G::m,P,k=>by
  show k∈Hc xs m _↔_;rw[IB xs m,Ar];constructor
  .rintro((h|h)|⟨K,j,h⟩)
   .exact .inl h
   .exact .inr ⟨G,mF0,h⟩
   .exact .inr {K,mO _ j,h}
  .rintro(h|⟨K,j,h⟩)
   .exact .inl (.inl h)
   .rcases mC.mp j with rfl|j
    .exact .inl (.inr h)
    .exact .inr ⟨K,j,h⟩
def pP:E∈vM xs Gs↔ ∃G∈Gs,E=jW xs (bR xs G):=by
 unfold vM;rw[mM];constructor
 .rintro⟨k,b,rfl⟩;rcases (IB xs Gs [] k).mp b with h|⟨G,a,rfl⟩
  .simp at h
  .exact⟨G,a,rfl⟩
 .rintro⟨G,a,rfl⟩;exact Z3 _ ((IB xs Gs [] _).mpr (.inr ⟨G,a,rfl⟩)) rfl
theorem Ba(E)(k d j):look (putK E k d) j=if k=j then some d else look E j:=by
 unfold putK;split
 .rename_i hs
  have q: ∀E:Ev, ¬k=j->look (E.map λp=>if p.1=k then(p.1,d)else p) j=look E j:=λE q=>by
   induction E with
   |nil=>rfl
   |cons p E ih=>rw[ç,xE,xE];grind
  induction E with
  |nil=>cases hs
  |cons p E ih=>
   rw[ç,xE,xE];rw[xE]at hs
   grind
 .rw[iS];cases z:look E j<;>grind
theorem UE: ∀ M G  x ,(∀p∈M, ∀d,look G p.1=some d->p.2=d)->(∀p∈M, ∀q∈M,p.1=q.1->p.2=q.2)->look (kP G M) (.str x)=(look G (.str x)).or (look M (.str x))
 |[],G,x,_,_=>by show look G _=_;cases look G _<;>rfl
 |p::M,G,x,h1,h2=>by
  show look (kP _ M) _=_;rw[UE M _ x (λq j d hd=>?_) (λq j r m=>h2 q (mO _ j) r (mO _ m)),Ba,xE]
  .by_cases e:p.1=.str x
   .rw[iP e,iP e]
    cases z:look G _ with
    |none=>rfl
    |some d=>rw[h1 p mF0 d (by rw[e];exact z)];rfl
   .rw[iN e,iN e]
  .rw[Ba]at hd;split at hd
   .rename_i e;cases hd;exact(h2 p mF0 q (mO _ j) e).symm
   .exact h1 q (mO _ j) d hd
def Bb:E∈joinM xs Gs Ds↔ ∃G∈Gs, ∃D∈Ds,bR xs D.2=bR xs G/\E=kP G D.2:=by
 unfold joinM;rw[List.mem_flatMap];constructor
 .rintro⟨G,a,h⟩;refine(mM.mp h).a λD b k=>?_;subst k;obtain⟨j,c⟩:=Ē.mp b;exact{G,a,D,j,ė c,rfl}
 .rintro⟨G,a,D,b,h,rfl⟩;exact{G,a,mM.mpr {D,Ē.mpr {b,dT0 h},rfl}}
def Yx(h: ∀x,vn t=some x->σ x=τ x):Lc σ t=Lc τ t:=by
 unfold Lc
 cases z:vn t with
 |none=>rfl
 |some x=>exact h x z
def Ra(h: ∀t∈a.2, ∀x,vn t=some x->σ x=τ x)(m:Mt rows a σ):Mt rows a τ:=by unfold Mt at *;rw[<-ĳ λt b=>Yx (h t b)];exact m
def Dz(h:p∈jW xs (xs.map f)): ∃x∈xs,p=(.str x,f x):=by
 induction xs with
 |nil=>exact absurd h (by simp[jW])
 |cons y xs ih=>
  rcases mC.mp h with rfl|h
  .exact⟨y,mF0,rfl⟩
  .refine(ih h).a λx a e=>?_;exact{x,mO _ a,e}
def Yy(h:GH E){p:MV×MV}(c:(∃x,p.1=.str x)/\VS p.2):GH (putK E p.1 p.2):=by
 unfold putK;split
 .intro q a;refine(mM.mp a).a λr b j=>?_;subst j;split
  .exact{(h r b).1,c.2}
  .exact h r b
 .intro q a;rcases ì.mp a with a|a
  .exact h q a
  .rw[mS.mp a];exact c
theorem Bc: ∀ M G ,GH G->GH M->GH (kP G M)
 |[],G,h,_=>h
 |p::M,G,h,hM=>Bc M _ (Yy h (hM p mF0)) λq j=>hM q (mO _ j)
structure FI(rows done:List Rw)(kn:Ch)(Gs:List Ev):Prop where
 dom: ∀G∈Gs,GH G/\ ∀x,look G (.str x)≠none↔x∈kn
 snd: ∀G∈Gs, ∃σ,(∀b∈done,Mt rows b σ)/\ ∀x∈kn,GM G x=σ x
 cmp: ∀σ,(∀b∈done,Mt rows b σ)-> ∃G∈Gs, ∀x∈kn,GM G x=σ x
section
variable{kn own:Ch}{ask:List Nat->Prop}
def Rb(s:GH G/\ ∀x,look G (.str x)≠none↔x∈kn)(D:Has own F)(c: ∀x,x∈sh↔x∈own/\x∈kn)(b: ∀x,x∈ow↔x∈own/\(x∈sh\/ask x))(L: ∀x,x∈kn'↔(x∈kn\/x∈own)/\ask x)(I:bR sh (jW ow (bR ow F))=bR sh G):
  (∀x∈sh,GM F x=GM G x)/\(∀x∈kn,GM (kP G (jW ow (bR ow F))) x=GM G x)/\(∀x∈ow,GM (kP G (jW ow (bR ow F))) x=GM F x)/\Has kn' (kP G (jW ow (bR ow F))):=by
 have u:Has ow F:={D.1,λx a=>D.2 x ((b x).mp a).1}
 have hs:=λx a=>by
  have j:GM (jW ow (bR ow F)) x=GM G x:=by exact List.map_inj_left.mp I x a
  rw[ND ((b x).mpr {((c x).mp a).1,.inl a})]at j;exact j
 have m: ∀{E:Ev}{x:Db},look E _≠none->look E _=some (GM E x):=λ{E x} h=>by
  cases z:look E _ with
  |none=>exact absurd z h
  |some d=>rw[oM z]
 have o: ∀x,look (kP G (jW ow (bR ow F))) _=(look G _).or _:=λx=>by
  refine UE _ _ x (λp v d hd=>?_) λp v q H e=>?_
  .refine(Dz v).a λy B k=>?_;subst k;have w:=(s.2 y).mp (by rw[hd];simp);have A:=(c y).mpr {((b y).mp B).1,w};rw[hs y A];exact oM hd
  .refine(Dz v).a λy B O=>?_;subst O;refine(Dz H).a λz N P=>?_;subst P;cases e;rfl
 have j: ∀x∈kn,look _ _=some _:=λx a=>by rw[o,m ((s.2 x).mpr a)];rfl
 have C: ∀x∈ow,look _ _=some (GM F x):=λx a=>by
  by_cases e:x∈kn
  .rw[j x e,hs x ((c x).mpr {((b x).mp a).1,e})]
  .have J:look G (.str x)=none:=by
    cases z:look G _ with
    |none=>rfl
    |some d=>exact absurd ((s.2 x).mp (by rw[z];simp)) e
   rw[o,J,Option.none_or];unfold bR;rw[BW,iP a]
 refine{hs,λx a=>oM (j x a),λx a=>oM (C x a),Bc _ _ s.1 (XQ u).1,λx a=>?_};obtain⟨K,M⟩:=(L x).mp a;by_cases e:x∈kn
 .rw[j x e];simp
 .rw[C x ((b x).mpr {K.resolve_left e,.inr M})];simp
def Bd(s: ∀t∈a.2,gQ t)(hw: ∀r∈rows,r.1=a.1->a.2.length=r.2.length)(m: ∀r∈rows, ∀c∈r.2,VS c)(b: ∀x,x∈own↔ ∃t∈a.2,vn t=some x)(j:F∈dG rows a):Mt rows a (GM F)/\Has own F:=by obtain⟨v,w⟩:=Qy s hw j;refine(mem_filterMap.mp j).a λr q y=>?_;exact{v,NC _ _ _ _ y (λp h=>by simp at h) (m r (Ē.mp q).1),λx o=>by refine((b x).mp o).a λt u e=>?_;exact w t u x e}
def Yz(I:FI rows done kn Gs)(ha: ∀t∈a.2,gQ t)(hw: ∀r∈rows,r.1=a.1->a.2.length=r.2.length)(hv: ∀r∈rows, ∀c∈r.2,VS c)(y: ∀x,x∈own↔ ∃t∈a.2,vn t=some x)(s: ∀x,x∈sh↔x∈own/\x∈kn)(v: ∀x,x∈ow↔x∈own/\(x∈sh\/ask x))(O: ∀x,x∈kn'↔(x∈kn\/x∈own)/\ask x)
  (hdn: ∀b∈done, ∀t∈b.2, ∀x,vn t=some x->x∈own->x∈kn) (hDs: ∀M,M∈vM ow (dG rows a)↔ ∃D∈Ds,D.2=M):(∀K∈joinM sh Gs Ds,Has kn' K)/\FI rows (done++[a]) kn' (vM kn' (joinM sh Gs Ds)):=by
 have j: ∀F∈dG rows a,Mt rows a (GM F)/\Has own F:=λF o=>Bd ha hw hv y o;have un: ∀K∈joinM sh Gs Ds, ∃G∈Gs, ∃F∈dG rows a,bR sh (jW ow (bR ow F))=bR sh G/\K=kP G (jW ow (bR ow F)):=λK B=>by obtain⟨G,u,D,W,e,rfl⟩:=Bb.mp B;refine(pP.mp ((hDs D.2).mpr ⟨D,W,rfl⟩)).a λF o H=>?_;exact{G,u,F,o,by rw[<-H];exact e,by rw[H]}
 have A: ∀{G F:Ev},G∈Gs->F∈dG rows a->bR sh _=bR sh G-> ∀{σ:List Nat->MV},(∀x∈kn,GM G x=σ x)->(∀x∈own,GM F x=σ x)-> ∀x∈kn',GM _ x=σ x:=λ{G F} u o e {σ} P g2 x m=>by
  refine(Rb (I.dom G u) (j F o).2 s v O e).g λQ o2 o3 _=>?_;rw[ND m];obtain⟨h3,h4⟩:=(O x).mp m;by_cases q:x∈kn
  .rw[o2 x q,P x q]
  .have J:=h3.resolve_left q;rw[o3 x ((v x).mpr {J,.inr h4}),g2 x J]
 have C: ∀K∈joinM sh Gs Ds,Has kn' K:=λK B=>by obtain⟨G,u,F,o,e,rfl⟩:=un K B;exact(Rb (I.dom G u) (j F o).2 s v O e).2.2.2
 refine{C,λE T=>?_,λE T=>?_,λσ L=>?_}
 .obtain⟨K,B,rfl⟩:=pP.mp T;exact XQ (C K B)
 .refine(pP.mp T).a λK B k=>?_;subst k;obtain⟨G,u,F,o,e,rfl⟩:=un K B;refine(Rb (I.dom G u) (j F o).2 s v O e).g λQ _ _ _=>?_;refine(I.snd G u).a λS s1 Z=>?_
  classical
  refine Z3 (λx=>if x∈own then GM F x else S x) (λb w=>?_) (A u o e (λx m=>?_) λx m=>by rw[iP m])
  .rcases ì.mp w with w|w
   .refine Ra (λt U x m=>?_) (s1 b w);by_cases q:x∈own
    .have N:=hdn b w t U x m q;rw[iP q,Q x ((s x).mpr ⟨q,N⟩),Z x N]
    .rw[iN q]
   .rw[mS.mp w];exact Ra (λt U x m=>by rw[iP ((y x).mpr ⟨t,U,m⟩)]) (j F o).1
  .by_cases q:x∈own
   .rw[iP q,Q x ((s x).mpr ⟨q,m⟩)]
   .rw[iN q];exact Z x m
 .refine(I.cmp σ λb w=>L b (ę _ w)).a λG u P=>?_;refine((show ∃G∈dG rows a, ∀x d,look G (.str x)=some d->d=σ x by obtain⟨G,h1,h2⟩:=IA σ a.2 [] (λx d z=>by cases z) ha;exact{G,mem_filterMap.mpr {_,Ē.mpr {(L a (û _ mF0)),dT0 rfl},h1},h2})).a λF o f1=>?_
  have Y: ∀x∈own,GM F x=σ x:=λx m=>by
   cases z:look F _ with
   |none=>exact absurd z ((j F o).2.2 x m)
   |some d=>rw[oM z];exact f1 x d z
  have e:bR sh (jW ow (bR ow F))=bR sh G:=by show sh.map _=sh.map (GM G);refine ĳ λx m=>?_;obtain⟨X,q2⟩:=(s x).mp m;rw[ND ((v x).mpr {X,.inl m}),Y x X,P x q2]
  refine((hDs _).mp (pP.mpr ⟨F,o,rfl⟩)).a λD W H=>?_;exact{_,pP.mpr {_,Bb.mpr {G,u,D,W,by rw[H];exact e,rfl},rfl},by rw[H];exact A u o e P Y}
end
noncomputable def rk:MV->MV
 |.str x=>.tup [.int 1,.int 0,.str x]
 |d=>.tup [.int 0,d,.str []]
noncomputable def cd:MV->List Int
 |.int i=>[0,i]
 |.str x=>1::x.map Int.ofNat
 |_=>[]
abbrev Bq(t:Q0):List (List Int):=t.map cd
theorem Re: ∀(x y:Db),x.map Int.ofNat<y.map Int.ofNat↔x<y
 |_,[]=>by simp
 |[],_::_=>by simp
 |a::x,b::y=>by rw[ç,ç,cons_lt_cons_iff,cons_lt_cons_iff,Re x y];simp;grind
def Rf(hd:VS d)(a:VS e)(h:cd d=cd e):d=e:=by
 rcases hd with⟨i,rfl⟩|⟨x,rfl⟩<;>rcases a with⟨j,rfl⟩|⟨y,rfl⟩<;>simp[cd]at h
 .rw[h]
 .rw[(List.map_inj_right (λ_ _ e=>Int.ofNat.inj e)).mp h]
theorem Hf: ∀{a b},(∀d∈a,VS d)->(∀d∈b,VS d)->Bq a=Bq b->a=b
 |[],[],_,_,_=>rfl
 |[],_::_,_,_,h=>by cases h
 |_::_,[],_,_,h=>by cases h
 |d::a,e::b,ha,hb,h=>by
  injection h with h1 h2
  rw[Rf (ha d mF0) (hb e mF0) h1,Hf (λx j=>ha x (mO _ j)) (λx j=>hb x (mO _ j)) h2]
def UF(h:VS d):pd (rk d)=true/\EM (rk d)<=1/\OO (rk d)=true:=by rcases h with⟨i,rfl⟩|⟨x,rfl⟩<;>simp[rk,pd,YI,EM,LV,OO,ZL]
def zFD(hd:VS d)(a:VS e)(n):MF S (n+2) (rk d) (rk e)=some (decide (cd d<cd e)):=by
 rcases hd with⟨i,rfl⟩|⟨x,rfl⟩<;>rcases a with⟨j,rfl⟩|⟨y,rfl⟩<;>simp[rk,cd,MF,RB,MH,GX,cons_lt_cons_iff,Re]
 .by_cases h:i=j<;>simp[h]
 .by_cases h:x=y<;>simp[h]
theorem Rg(n): ∀{a b},(∀d∈a,VS d)->(∀d∈b,VS d)->RB (eqv S (n+2)) (MF S (n+2)) (a.map rk) (b.map rk)=some (decide (Bq a<Bq b))
 |[],[],_,_=>by simp[RB]
 |[],_::_,_,_=>by simp[RB]
 |_::_,[],_,_=>by simp[RB]
 |d::a,e::b,ha,hb=>by
  have m:=ha d mF0;have c:=hb e mF0;have s:=Rg (S:=S) n (λx o=>ha x (mO _ o)) (λx o=>hb x (mO _ o));rw[ç,ç];unfold RB;rw[oH _ (UF m).1 (UF c).1 (by have:=(UF m).2.1;lia)];rw[s,zFD m c];by_cases q:d=e
  .subst q;simp[cons_lt_cons_iff]
  .have: ¬cd d=cd e:=λz=>q (Rf m c z);simp[(show rk d=rk e↔d=e by rcases m with⟨i,rfl⟩|⟨x,rfl⟩<;>rcases c with⟨j,rfl⟩|⟨y,rfl⟩<;>simp[rk]),q,cons_lt_cons_iff,this]
def klt(j: ∀d∈a,VS d)(c: ∀d∈b,VS d):MF S zO (.tup (a.map rk)) (.tup (b.map rk))=some (decide (Bq a<Bq b)):=Rg 37 j c
def oN(T:zA0):List (List MV):=T.mergeSort λa b=>decide (Bq a<=Bq b)
def jX(T):(oN T).Perm T:=List.mergeSort_perm _ _
def IC(T):(oN T).Pairwise λa b=>Bq a<=Bq b:=by have:=List.pairwise_mergeSort (le:=λa b:List MV=>decide (Bq a<=Bq b)) (λa b c j m=>dT0 (List.le_trans (ė j) (ė m))) (λa b=>by rw[Bool.or_eq_true,decide_eq_true_iff,decide_eq_true_iff];exact List.le_total _ _) T;exact this.imp λh=>ė h
def DM{R:zA0}(c: ∀t∈T, ∀d∈t,VS d)(p:R.Perm T)(q:R.Pairwise λa b=>Bq a<=Bq b):R=oN T:=
 List.Perm.eq_of_pairwise (λa b o m j s=>Hf (c a (p.mem_iff.mp o)) (c b ((jX T).mem_iff.mp m)) (List.le_antisymm j s)) q (IC T) (p.trans (jX T).symm)
def QK{β:Type}(T:List β):(List.range T.length).filterMap (T[·]?)=T:=by
 induction T with
 |nil=>rfl
 |cons t T ih=>rw[lC,List.range_succ_eq_map];simp[Function.comp_def,ih]
theorem Zb(s: ∀t∈T, ∀d∈t,VS d)(hw: ∀t∈T,t.length=w)(hl:T.length<64)(X:xQ S p=some (T.map .tup))(call: ∀t∈T,zC 1 Fd [#[t,6]] S=.ok (Ko l (.tup (t.map rk))) S):
  PC l Fd [p] S=#[(oN T).map .tup,S,2]:=by
 have mem: ∀k∈T.map (λt=>MV.tup (t.map rk)), ∃t∈T,k=.tup (t.map rk):=λk K=>by refine(mM.mp K).a λt o B=>?_;exact⟨t,o,B.symm⟩
 have at': ∀{f:List MV->MV}{m:Nat}{k:MV},(T.map f)[m]? =some k-> ∃t,T[m]? =some t/\t∈T/\k=f t:=λh=>by rw[ë]at h;refine(ć.mp h).a λt o B=>?_;exact Z0 t o (ò o) B.symm
 have ok:SrtOkX l Fd S (T.map .tup) (T.map λt=>.tup (t.map rk)) (decide (0<w)):=by
  refine{by rw[lM];exact hl,by rw[lM,lM],λm d kd o B=>?_,λd hd=>?_,λd hd=>?_,{λa H b F=>?_,λa H b F c I o B=>?_,λa H b F o=>?_}}
  .refine(at' o).c λt z A V=>?_;subst V;refine(at' B).c λu M _ ac=>?_;subst ac;rw[z]at M;cases M;exact call t A
  .obtain⟨t,A,rfl⟩:=mem d hd;unfold OO;have: ∀L:List MV,(∀d∈L,OO d=true)->ZL L=true:=λL=>by induction L<;>simp_all [ZL]
   exact this _ λx Y=>by refine(mM.mp Y).a λy W am=>?_;subst am;exact(UF (s t A y W)).2.2
  .obtain⟨t,A,rfl⟩:=mem d hd;unfold Sd;split
   .exact{_,rfl}
   .have o:=hw t A
    cases t with
    |nil=>rw[<-o];exact .e
    |cons x t=>
     rw[dT0 (by rw[<-o,lC];lia),ç];rcases s _ A x mF0 with⟨i,rfl⟩|⟨y,rfl⟩
     .exact .t _ _
     .exact .t _ _
  .refine(mem a H).a λt A ap=>?_;subst ap;refine(mem b F).a λu E be=>?_;subst be;exact{_,klt (s t A) (s u E)}
  .refine(mem a H).a λt A bi=>?_;subst bi;refine(mem b F).a λu E bn=>?_;subst bn;refine(mem c I).a λv J bv=>?_;subst bv;rw[klt (s _ E) (s _ A)]at o;rw[klt (s _ J) (s _ E)]at B;rw[klt (s _ J) (s _ A)];have o:=of_decide_eq_false (è o);have B:=of_decide_eq_false (è B);rw[dF0 (List.not_lt.mpr (List.le_trans (List.not_lt.mp o) (List.not_lt.mp B)))]
  .refine(mem a H).a λt A bw=>?_;subst bw;refine(mem b F).a λu E bx=>?_;subst bx;rw[klt (s _ A) (s _ E)]at o;rw[klt (s _ E) (s _ A),dF0 (List.not_lt.mpr (List.le_of_lt (ė (è o))))]
 refine Xv X ok (λr' h=>?_) ?_ (λO b' G=>?_)
 .refine h.c λD p q bz=>?_;subst bz;rw[lM]at p;rw[<-DM (R:=D.filterMap (T[·]?)) s (by have:=p.filterMap (T[·]?);rwa [QK]at this) (by rw[List.pairwise_filterMap];refine q.imp λ{i j} h b F c I=>?_;have h':=h _ _ (by rw[ë,F];rfl) (by rw[ë,I];rfl);rw[klt (s c (ò I)) (s b (ò F))]at h';exact List.not_lt.mp (of_decide_eq_false (è h'))),List.map_filterMap];congr 1;funext i;rw[ë]
 .refine(SX (jX T).symm (g:=λi=>(T[i]?).getD []) _ (by rw[OP λi hi=>ē.mp hi,QK])).a λD P Q=>?_;have Z: ∀i,i∈D->i<T.length:=λi hi=>ē.mp (P.mem_iff.mp hi);refine Z0 D (by rw[lM];exact P) ?_ ?_
  .have U:=IC T;rw[<-Q,pairwise_map]at U;refine List.Pairwise.imp_of_mem (λ{i j} hi hj h a c H I=>?_) U;refine(at' H).c λt z A b0=>?_;subst b0;refine(at' I).c λu M E b3=>?_;subst b3;rw[z,M]at h;rw[klt (s u E) (s t A),dF0 (List.not_lt.mpr (show Bq t<=Bq u from h))]
  .rw[<-Q,OP Z,List.map_filterMap];congr 1;funext i;rw[ë]
 .refine List.ext_getElem (by rw[G.kl,lM,lM]) λm o B=>?_;rw[lM]at B;have C:=G.call m _ _ (by rw[ë,gE B];rfl) (gE o);rw[call _ (Ľ B)]at C;injection C with C _
  have K:=G.kind _ (Ľ o);rw[List.getElem_map];unfold Sd at K;unfold Ko at C;split at K
  .rename_i e;obtain⟨es,N⟩:=K;rw[iP e,iP e,N]at C;rw[N];injection C with C
   rw[C]
  .rename_i e;rw[iN e,iN e]at C;injection C with C
   exact C.symm
theorem zAK(h:VS d)(S):zC 1 sP [.val d] S=#[rk d,S,1]:=by
 have a:=(UF h).1;rcases h with⟨i,rfl⟩|⟨x,rfl⟩
 .refine yT rfl ?_ (gA a) (λl=>by simp[rk]);unfold sP fnJ;unfold fS;rfl
 .refine yT rfl ?_ (gA a) (λl=>by simp[rk]);unfold sP fnJ;unfold fS;rfl
theorem Zc(h: ∀d∈t,VS d)(c:t.length<1000)(S):zC 1 sQ [#[t,6]] S=.ok #[t.map rk,6] S:=by
 refine yT rfl ?_ (iZ (Dw ((iM λe b=>by refine(mM.mp b).a λd hd j=>?_;subst j;exact(UF (h d hd)).1)))) (λl=>by simp);have a:zV (zU 0) dS jR [none] [] t S=.ok (t.map rk) S:=ZH (yU S) λd hd=>by refine Z0 _ rfl rfl ?_;unfold jR;simp? [zAK (h d hd)]
 show zG (fU [some _] S)=_;unfold fU lI;simp? [Dx,show t.length<1000000 by lia];rw[show IT 1 [] [some _]=[none]from rfl,a];rfl
theorem Zd{d:MV}:DV (ds++[d]) (-1)=some d:=by
 unfold DV
 have:QR (ds++[d]).length (-1)=some ds.length:=by
  unfold QR;simp
  lia
 rw[this];simp
theorem Be: ∀(L O:zA0) S  x ,S[m]? =#[O.map .tup,2]->(O++L).Nodup->(∀t∈O++L, ∀d∈t,VS d)->O.length+L.length<1000->
  ∃y,wO (zU 2) fV [] (L.map .tup) [a,#[m],x] S=#[[a,#[m],y],S.set m (.lst ((O++L).map .tup)),0]
 |[],O,S,x,hS,_,_,_=>{x,by obtain⟨u,q⟩:=gS.mp hS;rw[aN, <-q,List.set_getElem_self u];rfl}
 |t::L,O,S,x,hS,hn,hv,hl=>by
  rw[lC]at hl;have e:O++t::L=O++[t]++L:=by simp
  rw[e]at hn hv ⊢;have s:=hv t (by simp);have app:rH #[m,1] [#[t,6]] S=#[.non,S.set m (.lst ((O++[t]).map .tup)),1]:=by rw[wM hS (by rw[lM];lia),ù];rfl
  obtain⟨y,h⟩:=Be L _ _ _ (get_set hS) hn hv (by simp;lia);refine{y,?_};rw[ç,yC rfl ?_ (yU _),h,List.set_set];unfold fV lK;by_cases c:O=[]
  .subst c;exists 7,HV hS,show _=true from rfl,xD hS,app
  .obtain⟨P,z,rfl⟩: ∃P z,O=P++[z]:={_,_,(List.dropLast_concat_getLast c).symm}
   have o:z≠t:=λe=>by subst e;simp[Ŀ]at hn
   have j:yE _ _ S=.ok _ S:=IZ hS (by rw[ù];exact Zd);have b:MG #[z,6] #[t,6] S=#[.bl true,S,1]:=by rw[DI (BU (hv z (by simp))) (BU s).1,dF0 (λe=>o (MV.tup.inj e))];rfl
   simp? [HV hS,show(!((P++[z]).map MV.tup).isEmpty)=true by simp,Bool.not_true,fT0,iF,j,b,xD hS,app]
theorem XR(o: ∀t∈T, ∀d∈t,VS d)(hw: ∀t∈T,t.length=w)(j:w<1000)(B:T.Nodup)(A:T.length<64)(S):zC 1 lL [.new (T.map .tup)] S=#[(oN T).map .tup,S,2]:=by
 have p:=jX T;have c: ∀t∈[]++oN T, ∀d∈t,VS d:=λt b=>o t (p.mem_iff.mp b);have s:(S++[MO.lst (T.map .tup)]++[.lst []])[↑2]? =#[T.map .tup,2]:=by simp
 obtain⟨y,u⟩:=Be (m:=↑2+1) (a:=#[↑2]) (oN T) [] (S++[.lst (T.map .tup)]++[.lst []]) none (by rw[aA];exact GE _ _ _) (p.nodup_iff.mpr B) c (by have:=p.length_eq;simp;lia);refine xL rfl rfl (T:=[.lst (T.map .tup),.lst ((oN T).map .tup)]) ?_ (.inr (Z0 (↑2+1) rfl (by lia) (GE _ _ _))) (xO λd hd=>by refine(mM.mp hd).a λt b k=>?_;subst k;exact gA (BU (c t b)).1);show zG (sS [#[↑2],none,none] (S++[.lst (T.map .tup)]))=_;unfold sS;have q:fW [#[↑2],none,none] (S++[.lst (T.map .tup)])=#[[#[↑2],#[↑2+1],none],S++[.lst (T.map .tup)]++[.lst []],0]:=by unfold fW;simp? [jO];simp
 have v:fX [#[↑2],#[↑2+1],none] (S++[.lst (T.map .tup)]++[.lst []])=#[[#[↑2],#[↑2+1],y],S++[.lst (T.map .tup),.lst ((oN T).map .tup)],0]:=by unfold fX;simp? [Zb (l:=false) o hw A (p:=#[↑2,1]) (by unfold xQ;dsimp only;rw[s]) (λt b=>Zc (o t b) (by rw[hw t b];exact j) _),Dy];rw[u,aA];simp
 rw[yI q,yI v];unfold sR;exists 7,rfl
theorem UG(b:↑4=n)(a:F (zK rs S).1 (zK rs S).2=.ok #[l,1] (S++T))(c:↑2<=l)(h:(S++T)[l]? =#[ds,2]):
  ∃r j,zC n F rs S=.ok r (S++j)/\(r=#[l,1]/\j=T\/r=.new ds/\j=[]/\vO ↑2 ds):=by
 unfold zC;rw[iP b,a];show∃r j,hX S _ _=_/\_;unfold hX;rw[iP rK];dsimp only;rw[iN #[],h];dsimp only;split
 .rename_i h;exact ZX _ ([]) (by rw[aN,List.take_left'];rfl) (.inr ⟨rfl,rfl,h⟩)
 .exact(ZX _ T rfl (.inl ⟨rfl,rfl⟩))
def Ls(Z:Sto)(n:Nat)(r:Er)(b:List Ev):Prop:=(∃l a,r=#[l,1]/\Z[l]? =#[a,2]/\Fts Z n 1 a b)\/ ∃a,r=.new a/\Fts Z n 1 a b
theorem Bf(h:Ls Z n r Gs)(s:q=.new #[xs,8]\/ ∃l,q=#[l,1]/\Z[l]? =#[xs.map MV.str,2])(y:↑7<1000)(u:xs.Nodup)(D: ∀G∈Gs,Has xs G)(E:Gs.length<10000):
  ∃out T B,zC 2 Ah [r,q] Z=#[out,Z++T,2]/\Fts (Z++T) B 1 out (vM xs Gs):=by
 obtain⟨j,m,a,b,F,I,v,w⟩: ∃j m a b,zK [r,q] Z=([.loc j,m],Z++b)/\(Z++b)[j]? =#[a,2]/\SqM (Z++b) m _/\Fts (Z++b) n 1 a Gs:=by
  rcases h with⟨l,a,rfl,h1,h2⟩|⟨a,rfl,h2⟩<;>rcases s with rfl|⟨k,rfl,h3⟩
  .exact(ZB l _ a _ {rfl,zI h1,.inr {_,rfl,zF _ _},h2.grow})
  .exact(ZB l _ a ([]) {(by rw[aN];rfl),zI h1,.inr {k,rfl,zI h3},h2.grow})
  .exact(ZB _ _ a _ {(by simp[zK]),wW _ _ _,.inr {_,rfl,GE _ _ _},h2.grow})
  .exact(ZB _ _ a _ {rfl,zF _ _,.inr {k,rfl,zI h3},h2.grow})
 refine(zFC I v y u w D E).d λout T o c=>?_;rw[aA]at o c;refine(UD rfl (by rw[F];exact o)).a λC A H=>?_;refine YX out C ((Z++b).length) A ?_;rcases H with rfl|⟨rfl,hlo⟩
 .exact c
 .exact c.cut hlo (by rw[lA];lia)
noncomputable def zBK(vs:Q0):Nat->List (List MV)
 |0=>[[]]
 |n+1=>vs.flatMap λv=>(zBK vs n).map (v::·)
theorem Hg(vs): ∀n,(zBK vs n).length=↑9 ^ n
 |0=>rfl
 |n+1=>by
  have: ∀us:List MV,(us.flatMap λv=>(zBK vs n).map (v::·)).length=us.length * (zBK vs n).length:=λus=>by
   induction us with
   |nil=>simp
   |cons u us ih=>rw[List.flatMap_cons,lA,ih,lM,lC,Nat.add_mul,Nat.one_mul,Nat.add_comm]
  rw[zBK,this,Hg vs n,Nat.pow_succ,Nat.mul_comm]
theorem Hh: ∀{k},(∀d∈k,d∈vs)->k∈zBK vs k.length
 |[],_=>mS.mpr rfl
 |d::k,h=>List.mem_flatMap.mpr {d,h d mF0,mM.mpr {k,Hh λx j=>h x (mO _ j),rfl}}
def XS{vs:Q0}{P:zA0}(b:P.Nodup)(h: ∀k∈P,k.length=n/\ ∀d∈k,d∈vs):P.length<=↑9 ^ n:=by rw[<-Hg];exact b.length_le_of_subset λk a=>by obtain⟨rfl,c⟩:=h k a;exact Hh c
def jY:x∈eA as↔ ∃b∈as, ∃t∈b.2,vn t=some x:=by simp[eA]
def B7{vs:Q0}(a: ∀r∈rows, ∀c∈r.2,c∈vs)(m: ∀b∈as,Mt rows b σ)(q:x∈eA as):σ x∈vs:=by obtain⟨b,j,t,o,e⟩:=jY.mp q;refine a _ (m b j) (σ x) (mM.mpr {t,o,?_});unfold Lc;rw[e]
def IE{fs:Ch}(neg)(h:S[l]? =#[fs.map MV.str,2]):QS neg (.val (.str x)) #[l,1] S=#[.bl (if neg=true then !decide (x∈fs)else decide (x∈fs)),S,1]:=by rw[pO neg h (BQ x) MZ,dec_is NA]
def Hi{xs:Ch}(hs:stay gs Z)(a: ∀x,cf (#[x,4]::ρb) Z=.ok (p x) Z)(b: ∀x,ef (#[x,4]::ρb) Z=#[.str x,Z,1]):zV (zU 0) cf ef (none::ρb) gs #[xs,8] Z=.ok ((xs.filter p).map MV.str) Z:=
 GD hs λx _=>(Z0 _ rfl (a x) (b x))
theorem Bg(xs)(Ds): ∀j:List Ev,(joinM xs j Ds).length<=j.length * Ds.length
 |[]=>by simp[joinM]
 |G::j=>by
  have m:=Bg xs Ds j;have a:(Hd xs Ds (bR xs G)).length<=Ds.length:=ĝ _ _;show((Hd xs Ds _).map _++joinM xs j Ds).length<=_;rw[lA,lM,lC]
  lia
theorem Zf(xs)(j):(vM xs j).length<=j.length:=by
 have: ∀(j:List Ev)(P:List _),(Hc xs j P).length<=P.length+j.length:=λj=>by
  induction j with
  |nil=>exact λP=>à _
  |cons G j ih=>
   intro P;have a:=ih (qZ P (bR xs G));have b:=rV P (bR xs G);show(Hc xs j _).length<=_;rw[lC]
   lia
 rw[vM];simpa using this j []
structure QC(rows as:List Rw)(hd:Ch)(vs:Q0)(ys:Ch):Prop where
 hv: ∀r∈rows, ∀c∈r.2,c∈vs
 vv: ∀v∈vs,VS v
 v1:1<=↑9
 rl:rows.length<=90
 ha: ∀b∈as,(∀d∈b.2,gQ d)/\b.2.length<=4
 hw: ∀b∈as, ∀r∈rows,r.1=b.1->b.2.length=r.2.length
 al:as.length<=10
 hh: ∀x∈hd,x∈eA as
 hl:hd.length<=10
 hy: ∀x∈eA as,x∈ys
 yl:ys.length<=10
 pw:↑9 ^ ys.length<=100
 ph:↑9 ^ hd.length<64
structure MC(S:Sto)(mr:MV)(lm:Nat)(rows as:List Rw)(hd:Ch)(vs:Q0)(ys:Ch):Prop extends QC rows as hd vs ys where
 hr:SqM S mr #[rows,9]
 hm:S[lm]? =some (.lst (rows.map λ_=>.int 1))
noncomputable abbrev MR(mr:MV)(j:Nat)(H A:Q0)(a lf:Nat)(p b c d e f g:R0):Rho:=[some mr,#[j],#[[.tup H,.tup A],3],#[H,3],#[A,3],#[a],#[lf],p,b,c,d,e,f,g]
structure MI(S:Sto)(rows:List Rw)(hd:Ch)(done rest:List Rw)(kn:Ch)(ws:Q0)(Gs:List Ev)(n0:Nat)(mk:Int)(lk lf:Nat)(Z:Sto):Prop where
 ex: ∃T,Z=S++T
 k:Z[lk]? =#[kn.map MV.str,2]
 f:Z[lf]? =#[ws,2]
 F:Fts Z n0 mk ws Gs
 b: ∀Y,AG #[mk,5] #[1,5] Y=.ok #[1,5] Y
 I:FI rows done kn Gs
 nd:kn.Nodup
 kk: ∀x,x∈kn↔x∈eA done/\(x∈hd\/x∈eA rest)
 gl:Gs.length<=100
 gL: ∀G∈Gs,G.length<=1000
theorem Ea(xs): ∀ j {P},P.Nodup->(Hc xs j P).Nodup
 |[],_,h=>h
 |G::j,_,h=>Ea xs j (Gp h _)
section
def MJ(S:Sto)(mr:MV)(v:Nat)(a as:List Rw)(hd:Ch)(j rest:List Rw)(mk:Int)(ρ:Rho)(Z:Sto):Prop:= ∃kn s u q m o p b c d e f g,ρ=MR mr v #[hd,8] #[as,9] m o p b c d e f g/\MI S a hd j rest kn s u q mk m o Z
theorem Zg(C:MC S mr lm rows as hd vs ys){rest:List Rw}(ea:as=done++a::rest){mk:Int}(M:MJ S mr lm rows as hd done (a::rest) mk ρ Z):
  ∃ρ' Z',((aM 2 (zB (zU 7) (zB (zU 8) zZ)) (.tup [.int  done.length ,zY a]) ρ Z).bind λρ0 S0=>yO ρ0 S0)=#[ρ',Z',0]/\MJ S mr lm rows as hd (done++[a]) rest 1 ρ' Z':=by
 obtain⟨kn,ws,Gs,n0,lk,lf,p,b,c,d,e,f,g,rfl,M⟩:=M;obtain⟨T0,ab⟩:=M.ex;have w:a∈as:=by rw[ea];simp
 have av: ∀b∈rest,b∈as:=λb A=>by rw[ea];simp[A]
 have ao:=C.al;have bo:rest.length<=10:=by rw[ea]at ao;simp at ao;lia
 have vv: ∀r∈rows, ∀c∈r.2,VS c:=λr hr c hc=>C.vv c (C.hv r hr c hc);obtain⟨own,ho⟩: ∃own,own=wA [] (eA [a]):={_,rfl}
 have u: ∀x,x∈own↔ ∃t∈a.2,vn t=some x:=λx=>by rw[ho,BR,jY];simp
 have aq:own.length<=4:=by
  have h1:=BS (eA [a]) [];have h2:(eA [a]).length<=a.2.length:=by simp only[eA,List.flatMap_cons,List.flatMap_nil,aN];exact ı _ _
  have h3:=(C.ha a w).2;rw[ho];simp at h1
  lia
 have a0:own.Nodup:=by rw[ho];exact NB _ nodup_nil
 obtain⟨v,aa⟩: ∃v,v=own.filter λx=>decide (x∈kn):={_,rfl}
 obtain⟨ask,U⟩: ∃ask,ask=hd++wA [] (eA rest):={_,rfl}
 obtain⟨B,Q⟩: ∃B,B=own.filter λx=>if decide (x∈v)=true then true else decide (x∈ask):={_,rfl}
 obtain⟨T,O⟩: ∃T,T=own.filter λx=>!decide (x∈v):={_,rfl}
 obtain⟨j,ak⟩: ∃j,j=(kn++T).filter λx=>decide (x∈ask):={_,rfl}
 have L: ∀x,x∈v↔x∈own/\x∈kn:=λx=>by rw[aa];simp
 have bu:B.length<=4:=ó (Q▸ĝ _ _) aq;have bt:v.length<=4:=ó (aa▸ĝ _ _) aq;have ax: ∀x,x∈ask↔x∈hd\/x∈eA rest:=λx=>by rw[U,ì,BR];simp
 have ag: ∀x,x∈B↔x∈own/\(x∈v\/x∈ask):=λx=>by rw[Q];simp
 have ar: ∀x,x∈j↔(x∈kn\/x∈own)/\x∈ask:=λx=>by
  rw[ak,O];simp only[Ē,ì,L]
  grind
 have ah:j.Nodup:=by rw[ak];refine List.Pairwise.filter _ (Ŀ.mpr {M.nd,O▸List.Pairwise.filter _ a0,λx s y hy e=>?_});rw[O]at hy;simp[L]at hy;exact hy.2.elim (· hy.1) (· (e▸s))
 have ai: ∀x,x∈j↔x∈eA (done++[a])/\(x∈hd\/x∈eA rest):=λx=>by
  have e1:x∈eA (done++[a])↔x∈eA done\/x∈own:=by rw[u];simp[jY,or_and_right,exists_or]
  have e2:x∈eA (a::rest)↔x∈own\/x∈eA rest:=by rw[u];simp[jY]
  rw[ar,ax,M.kk,e1,e2]
  grind
 have bb:j.length<=ys.length:=ah.length_le_of_subset λx s=>C.hy x (by obtain⟨b,A,h⟩:=jY.mp ((ai x).mp s).1;exact jY.mpr {b,by rw[ea];simp at A ⊢; exact A.imp id .inl,h});have bq:=C.yl;have a6: ∀G∈Gs,Has v G/\G.length<=1000:=λG P=>{{(M.I.dom G P).1,λx s=>((M.I.dom G P).2 x).mpr ((L x).mp s).2},M.gL G P}
 have az: ∀G∈dG rows a,Has B G:=λG P=>by have:=(Bd (C.ha a w).1 (C.hw a w) vv u P).2;exact{this.1,λx s=>this.2 x ((ag x).mp s).1}
 have br:=C.rl;have fl:(dG rows a).length<=rows.length:=ó (ı _ _) (ĝ _ _);have zl: ∀(xs:Ch)(k:Q0),(jW xs k).length<=xs.length:=λxs k=>by unfold jW;rw[ļ,lM];lia
 have H: ∀{Y:Sto}{l:Nat}{o x:MO},Y[l]? =some o->(Y++[x])[l]? =some o:=λh=>zI h;obtain⟨J,q1⟩: ∃Y,Y=Z++[MO.lst #[own,8]]:={_,rfl}
 obtain⟨D,q2⟩: ∃Y,Y=J++[MO.lst #[v,8]]:={_,rfl}
 obtain⟨E,q3⟩: ∃Y,Y=D++[MO.lst #[ask,8]]:={_,rfl}
 have u3: ∀{l:Nat}{o:MO},Z[l]? =some o->E[l]? =some o:=λh=>by rw[q3,q2,q1];exact H (H (H h))
 have a9:J[Z.length]? =#[own.map MV.str,2]:=by rw[q1];exact zF _ _
 have bg:D[J.length]? =#[v.map MV.str,2]:=by rw[q2];exact zF _ _
 have a3:E[D.length]? =#[ask.map MV.str,2]:=by rw[q3];exact zF _ _
 have b9:E[Z.length]? =#[own.map MV.str,2]:=by rw[q3,q2];exact H (H a9)
 have aj:E[J.length]? =#[v.map MV.str,2]:=by rw[q3];exact H bg
 have uS: ∀{l:Nat}{o:MO},S[l]? =some o->E[l]? =some o:=λh=>u3 (by rw[ab];exact zI h);refine(zFB (mr:=mr) (by rw[q3,q2,q1,ab];exact C.hr.app.app.app.app) (uS C.hm) vv #[] (C.ha a w)).d λT4 w4 f1 f2=>?_;refine(Bf (q:=.new #[B,8]) (.inr ⟨w4,rfl,f2⟩) (.inl rfl) #[] (Q▸List.Pairwise.filter _ a0) az #[]).m λout T5 n5 c1 c2=>?_;obtain⟨Z4,q4⟩: ∃Y,Y=E++T4++T5++[MO.lst out]:={_,rfl}
 obtain⟨Z5,q5⟩: ∃Y,Y=Z4++[MO.lst #[T,8]]:={_,rfl}
 obtain⟨Z6,q6⟩: ∃Y,Y=Z5++[MO.lst #[j,8]]:={_,rfl}
 have X: ∀{l:Nat}{o:MO},E[l]? =some o->Z4[l]? =some o:=λh=>by rw[q4];exact zI (zI (zI h))
 have u6: ∀{l:Nat}{o:MO},Z4[l]? =some o->Z6[l]? =some o:=λh=>by rw[q6,q5];exact H (H h)
 have bf:Z4[(E++T4++T5).length]? =#[out,2]:=by rw[q4];exact zF _ _
 have a8:Z5[Z4.length]? =#[T.map MV.str,2]:=by rw[q5];exact zF _ _
 have a5:Z6[Z5.length]? =#[j.map MV.str,2]:=by rw[q6];exact zF _ _
 have a7: ∀N∈vM B (dG rows a),Has v N/\N.length<=1000:=λN hN=>by refine(pP.mp hN).a λG P ac=>?_;subst ac;have:=XQ (az G P);refine{{this.1,λx s=>(this.2 x).mpr ((ag x).mpr {((L x).mp s).1,.inl s})},ó (zl _ _) #[]}
 have bp:=Zf B (dG rows a);have F6:Fts Z6 n5 1 out (vM B (dG rows a)):=by rw[q6,q5,q4];exact c2.grow.grow.grow
 have bj:(vM B (dG rows a)).length * Gs.length<=90 * 100:=mul_le_mul #[] M.gl;refine(jn_f (m:=.loc J.length) (u6 (X (u3 M.f))) (u6 bf) (.inr {_,rfl,u6 (X aj)}) #[] (M.F.move λ_ _ h=>u6 (X (u3 h))) F6 a6 a7 #[] #[] M.b).h λl7 T7 ts V=>V.g λj1 j2 j3 j4=>?_;obtain⟨W,af⟩: ∃W,W=joinM v Gs (out.zip (vM B (dG rows a))):={_,rfl}
 rw[<-af]at j4;have ba:(out.zip (vM B (dG rows a))).length<=90:=by rw[ļ];lia
 have bl:W.length<=9000:=by
  have:=Bg v (out.zip (vM B (dG rows a))) Gs;have h2:=mul_le_mul M.gl ba;rw[<-af]at this
  lia
 obtain⟨aw,ae⟩:=Yz (ask:=λx=>x∈ask) M.I (C.ha a w).1 (C.hw a w) vv u L ag ar (λb A t ht x s ho=>(M.kk x).mpr {jY.mpr ⟨b,A,t,ht,s⟩,.inr (jY.mpr (by refine((u x).mp ho).a λt' h1 h2=>?_;exact⟨a,mF0,t',h1,h2⟩))}) ((λN=>by rw[<-mM,map_snd_zip (le_of_eq (F6.len).symm)]));rw[<-af]at aw ae;refine(UG (n:=3) (F:=HQ) (rs:=[#[lf,1],#[(E++T4++T5).length,1],#[J.length,1]]) rfl j1 #[] j3).d λr T8 k1 k2=>?_
 have a4:Ls (Z6++T8) l7 r W:=by
  rcases k2 with⟨rfl,rfl⟩|⟨rfl,rfl,hlo⟩
  .exact .inl (Z2 l7 ts rfl j3 j4)
  .exact .inr {ts,rfl,j4.cut hlo #[]}
 refine(Bf (q:=#[Z5.length,1]) a4 (.inr {_,rfl,zI a5}) #[] ah aw #[]).m λau T9 n9 m1 m2=>?_
 have a':(vM j W).length<=100:=by
  refine ó ?_ (ó (Nat.pow_le_pow_right C.v1 bb) C.pw);rw[vM,lM];refine XS (Ea j W nodup_nil) λk hk=>?_;rcases (IB j W [] k).mp hk with h|⟨K,hK,rfl⟩
  .cases h
  .refine{lM _,λd hd=>?_};refine(mM.mp hd).a λx s am=>?_;subst am;refine(ae.snd _ (pP.mpr ⟨K,hK,rfl⟩)).a λσ s1 s2=>?_;rw[<-ND (G:=K) s,s2 x s];exact B7 C.hv s1 ((ai x).mp s).1
 have p1:zC 1 kR [.new [zY a]] Z=#[own.map MV.str,Z,2]:=ho▸zAE (as:=[a]) (λb A=>by rw[mS.mp A];exact C.ha a w) (by simp);have p3:zC 1 kR [#[rest.map zY,6]] D=#[(wA [] (eA rest)).map MV.str,D,2]:=(gG rfl (zEZ (.inl rfl) (λb A=>C.ha b (av b A)) #[]) (DG _ _))
 have bc:kL (.new #[hd,8]) (.new ((wA [] (eA rest)).map MV.str)) D=#[ask.map MV.str,D,2]:=by
  rw[U,ù]
  exact VM rfl rfl (fits (by
   have h1:=C.hl;have h2:=NB (eA rest) (ks:=[]) nodup_nil;have h3:=h2.length_le_of_subset (l₂:=ys) λx s=>C.hy x (by rw[BR]at s;rw[jY]at s ⊢; obtain h|⟨b,A,h⟩:=s;cases h;exact{b,av b A,h});simp only[lM]
   lia))
 have ay:dM #[as,9] (some ((done.length:Int)+1)) none=rest.map zY:=by rw[show(done.length:Int)+1=((done.length+1:Nat):Int) by simp,KA,ea,show done++a::rest=(done++[a])++rest by simp,ù,List.drop_left' (by simp)]
 have bh:kn.length+T.length<=14:=by
  have h1:=M.nd.length_le_of_subset (l₂:=ys) λx s=>C.hy x (by have:=((M.kk x).mp s).1;rw[jY]at this ⊢; obtain⟨b,A,h⟩:=this;exact{b,by rw[ea];simp[A],h});have h2:T.length<=own.length:=O▸ĝ _ _
  lia
 have p6:kL #[lk,1] #[Z4.length,1] Z5=#[(kn++T).map MV.str,Z5,2]:=by rw[ù];exact VM (VR (by rw[q5];exact H (X (u3 M.k)))) (VR a8) (fits (by simp only[lM];lia))
 refine{_,Z6++T8++T9++[.lst au],?_,j,au,vM j W,n9,Z5.length,(Z6++T8++T9).length,#[(done.length:Nat),0],some (zY a),#[Z.length],#[J.length],#[D.length],#[(E++T4++T5).length],#[Z4.length],rfl,?_,zI (zI (zI a5)),zF _ _,m2.grow,λ_=>rfl,ae,ah,ai,a',λG P=>?_}
 .show yO (MR mr lm #[hd,8] #[as,9] lk lf #[(done.length:Nat),0] (some (zY a)) c d e f g) Z=_;unfold yO;apply zA
  .unfold kX;simp? [p1];rw[<-q1]
  apply zA
  .unfold kY;simp? [yV a9,lM,show own.length<1000000 by lia];rw[show IT 1 [5] _=[none,#[lk]]from rfl,Hi (p:=λx=>decide (x∈kn)) (yG a9) (λx=>by unfold kS;exists 7,IE false (show J[lk]? =_ by rw[q1];exact H M.k),fT0,iF) (λ_=>rfl), <-aa];simp? [<-q2];rfl
  apply zA
  .unfold kZ;simp? [show OH [#[hd.map MV.str,6]] D=#[hd.map MV.str,D,2] from rfl,XB,ay,p3,bc];rw[<-q3]
  apply zA
  .unfold jA;simp? [f1,yV (show(E++T4)[Z.length]? =_ from zI b9),lM,show own.length<1000000 by lia];rw[show IT 1 [10,11] _=[none,#[J.length],#[D.length]]from rfl,Hi (p:=λx=>if decide (x∈v)=true then true else decide (x∈ask)) (yG (zI b9)) (λx=>by unfold kT;simp? [IE false (show(E++T4)[J.length]? =_ from zI aj),IE false (show(E++T4)[D.length]? =_ from zI a3),fT0,iF];split<;>rfl) (λ_=>rfl), <-Q];simp? [c1];rw[<-q4]
  apply zA
  .unfold jB;simp? [yV (X b9),lM,show own.length<1000000 by lia];rw[show IT 1 [10] _=[none,#[J.length]]from rfl,Hi (p:=λx=>!decide (x∈v)) (yG (X b9)) (λx=>by unfold kU;exists 7,IE true (X aj)) (λ_=>rfl), <-O];simp? [<-q5];rfl
  apply zA
  .unfold jC;simp? [p6,Dy,lM,show(kn++T).length<1000000 by rw[lA];lia];rw[show IT 1 [11] _=[none,#[D.length]]from rfl,Hi (p:=λx=>decide (x∈ask)) (yU _) (λx=>by unfold kW;exists 7,IE false (by rw[q5];exact H (X a3)),fT0,iF) (λ_=>rfl), <-ak];simp? [<-q6];rfl
  unfold jD;exists 7,k1,m1
 .exact{_,by rw[q6,q5,q4,q3,q2,q1,ab];simp only[aA];rfl}
 .refine(pP.mp P).a λK hK ap=>?_;subst ap;exact ó (zl _ _) #[]
end
theorem UH(xs): ∀ j  P ,(j.map λG=>(MV.tup (bR xs G),MV.int 1)).foldl (λm p=>putK m p.1 p.2) (kd P)=kd (Hc xs j P)
 |[],_=>rfl
 |G::j,P=>by rw[ç,ņ,Qx,UH xs j _];rfl
theorem UI: ∀(j:List Ev),(∀G∈j,Has xs G)->lH (j.map λG=>.tup [.tup (bR xs G),m])=some (j.map λG=>(.tup (bR xs G),m))
 |[],_=>rfl
 |G::j,h=>by show(if keyOk _=true then(lH _).map _ else none)=_;rw[iP (GI (h G mF0).vs),UI j λK q=>h K (mO _ q)];rfl
def Hj(a as:List Rw)(hd:Ch)(k:Q0):Prop:= ∃σ:List Nat->MV,(∀b∈as,Mt a b σ)/\k=hd.map σ
section
theorem zFE(C:MC S mr lm rows as hd vs ys)(ne:as≠[]): ∃(l:Nat)(T:Sto)(J:zA0),yZ [mr,.loc lm,.tup [.tup #[hd,8],.tup #[as,9]]] S=.ok #[l,1] (S++T)/\↑2<=l/\(S++T)[l]? =#[kd J,7]/\J.Nodup/\ ∀k,k∈J↔Hj rows as hd k:=by
 obtain⟨K,u⟩: ∃Y,Y=S++[MO.lst [],.dic [],.lst [.tup [.loc (↑2+1),.int (-1)]]]:={_,rfl}
 obtain⟨ρ',Z,P,kn,s,m,n0,lk,lf,p,b,c,d,e,f,g,rfl,M⟩:=VL (gf:=aM 2 (zB (zU 7) (zB (zU 8) zZ))) (body:=yO) (gs:=[]) (L:=vL #[as,9]) (λi=>MJ S mr lm rows as hd (as.take i) (as.drop i) (if i=0 then -1 else 1)) (λi d hi ρ Z h=>by
  have v:i<as.length:=by have:=(gS.mp hi).1;simpa [vL]using this
  obtain rfl:.tup [.int (i:Nat),zY as[i]]=d:=by simpa [vL,v]using hi
  rw[ĕ v]at h;have:=Zg C (by rw[<-ĕ v,List.take_append_drop]) h;rw[lT,min_eq_left (le_of_lt v),List.take_append_getElem]at this;refine this.d λρ' Z' e j=>?_;exact Z2 (ρ') Z' e (yU _) j) (ρ:=MR mr lm #[hd,8] #[as,9] ↑2 (↑2+2) none none none none none none none) (S:=K) {[],[.tup [.loc (↑2+1),.int (-1)]],[[]],0,_,_,_,_,_,_,_,_,_,rfl,{_,u},by rw[u];exact wW _ _ _,by rw[u];exact GF (i:=2) rfl,.cons (zero_le _) (by rw[u];exact GF (i:=1) rfl) .nil,λ_=>rfl,{λG a=>by rw[mS.mp a];exact{Gz,λx=>{λz=>absurd rfl z,λz=>by cases z}},λG _=>(Z3 (λ_=>.non) (λb O=>by cases O) (λx o=>by cases o)),λσ _=>{[],mS.mpr rfl,λx o=>by cases o}},nodup_nil,λx=>by simp[eA],by simp,λG a=>by rw[mS.mp a];simp}
 simp only[vL,lM,length_zipIdx,take_length,drop_length,ń,iN ne]at M;obtain⟨T,B⟩:=M.ex;have A: ∀x,x∈kn↔x∈hd:=λx=>by rw[M.kk x];exact{λh=>h.2.elim id λz=>by simp[eA]at z,λh=>{C.hh x h,.inl h}}
 have H: ∀G∈m,Has hd G:=λG a=>{(M.I.dom G a).1,λx o=>((M.I.dom G a).2 x).mpr ((A x).mpr o)}
 have q:=M.F.len;have U:=M.gl
 have X:zV (aM 2 (zB (zU 0) (zB (zU 1) zZ))) xH yS [none,none,#[hd.map MV.str,3]] [(lf,s)] s Z=.ok (m.map λG=>.tup [.tup (bR hd G),.int 1]) Z:=by
  have:=yW (f:=Prod.fst) (gf:=aM 2 (zB (zU 0) (zB (zU 1) zZ))) (cf:=xH) (ef:=yS) (ρb:=[none,none,#[hd.map MV.str,3]]) (yG M.f) λD W=>by obtain⟨w,e,E,h3⟩:=He M.F D W;refine Z0 _ (by rw[E];rfl) rfl ?_;have Q:zC 2 yY [#[e,1],#[hd.map MV.str,6]] Z=.ok #[bR hd D.2,6] Z:=Ha h3 (H _ w).1 (.inl rfl) (H _ w).2 (by have:=C.hl;lia);unfold yS;exists 7,Q
  rw[map_fst_zip (le_of_eq q)]at this;rw[this,show(s.zip m).map (λD=>MV.tup [.tup (bR hd D.2),.int 1])=((s.zip m).map Prod.snd).map λG=>MV.tup [.tup (bR hd G),.int 1] by rw[Ă];rfl,map_snd_zip (le_of_eq q.symm)]
 have y:ZU _=kd (Hc hd m []):=UH hd m [];refine Y4 Z.length _ (Hc hd m []) ?_ (by rw[B,lA];lia) (by rw[<-aA, <-B];exact zF _ _) (Ea hd m nodup_nil) (λk=>?_)
 .show zG _=_;unfold dX;refine zW (zA rfl (zA (ρ':=[some mr,#[lm],_,#[hd.map MV.str,3],#[as.map zY,3],none,none,none,none,none,none,none,none,none]) (by rfl) (zA (by unfold bK;simp? [jO];rfl) (zA (ρ':=MR mr lm #[hd,8] #[as,9] ↑2 (↑2+2) none none none none none none none) (S':=K) (by unfold bL;simp? [KW];rw[u];simp) (zA (by unfold bM;simp? [(λds S=>rfl)];exact P) ?_)))));unfold bN;simp? [yV M.f,show s.length<1000000 by lia];rw[show IT 2 [3] _=[none,none,#[hd.map MV.str,3]]from rfl,X];simp? [show TR [.new _] Z=.ok #[Z.length,1] (Z++[.dic (kd (Hc hd m []))]) by unfold TR;dsimp only;rw[show(xQ Z _).bind lH=lH _ from rfl,UI m H];show R.ok _ (Z++[.dic (ZU _)])=_;rw[y]];rw[B,aA]
 .rw[IB];constructor
  .rintro(h|⟨G,a,rfl⟩)
   .cases h
   .refine(M.I.snd G a).a λσ N s2=>?_;exact Z3 (σ) N (ĳ λx o=>s2 x ((A x).mpr o))
  .rintro⟨σ,w,rfl⟩;refine(M.I.cmp σ w).a λG a E=>?_;exact .inr {G,a,ĳ λx o=>(E x ((A x).mpr o)).symm}
def uX(Q:QC rows as hd vs ys)(h:Hj rows as hd k):k.length=hd.length/\ ∀d∈k,d∈vs:=by refine h.a λσ a j=>?_;subst j;refine{lM _,λd hd=>?_};refine(mM.mp hd).a λx b m=>?_;subst m;exact B7 Q.hv a (Q.hh x b)
theorem B8(Q:QC rows as hd vs ys)(ne:as≠[])(b:S[lr]? =#[rows.map zY,2]): ∃(j:zA0)(T:Sto),j.Nodup/\(∀k,k∈j↔Hj rows as hd k)/\rQ [.loc lr,.tup [.tup #[hd,8],.tup #[as,9]]] S=#[(oN j).map MV.tup,S++T,2]:=by
 refine(zFE {Q,.inr {_,rfl,zI b},zF _ _} ne).i λl T j C v q m o=>?_;have B:=Q.rl;have a:=λk A=>uX Q ((o k).mp A);have w:zV (zU 0) qF qG [none] [_] #[rows,9] S=.ok _ S:=yW (yG b) λr _=>(Z0 _ rfl rfl rfl)
 have u:zC 3 yZ [.val _,.new _,.val _] S=.ok _ _:=nH rfl C (by rw[lA]at v;lia) q;have y:sO [#[l,1]] (S++[.lst (rows.map λ_=>.int 1)]++T)=#[j.map MV.tup,S++[.lst (rows.map λ_=>.int 1)]++T,2]:=by unfold sO;dsimp only;rw[GK q];dsimp only;rw[Hb]
 have s:=XR (λt c d hd=>Q.vv d ((a t c).2 d hd)) (λt c=>(a t c).1) (by have:=Q.hl;lia) m (ŋ (XS m a) Q.ph) (S++[.lst (rows.map λ_=>.int 1)]++T);refine Z2 j ([.lst (rows.map λ_=>.int 1)]++T) m o ?_;show zG (CW [some _,some _] S)=_;unfold CW BI;simp? [yV b,lM,show rows.length<1000000 by lia];rw[show IT 1 [] [some _,some _]=[none]from rfl,w];simp? [u,y,s];rw[aA];rfl
end
def QC.of(Q:QC rows as hd vs ys)(h: ∀r,r∈rows'↔r∈rows)(j:rows'.length<=90):QC rows' as hd vs ys:=
 {λr a=>Q.hv r ((h r).mp a),Q.vv,Q.v1,j,Q.ha,λb c r a=>Q.hw b c r ((h r).mp a),Q.al,Q.hh,Q.hl,Q.hy,Q.yl,Q.pw,Q.ph}
section
variable{rows':List Rw}
def an_f(Q:QC rows as hd vs ys)(ne:as≠[])(j:F.Nodup)(a: ∀k,k∈F↔Hj rows as hd k)(h: ∀r,r∈rows'↔r∈rows)(m:rows'.length<=90)(q:S[lr]? =#[rows'.map zY,2]): ∃T,rQ [.loc lr,.tup [.tup #[hd,8],.tup #[as,9]]] S=#[(oN F).map MV.tup,S++T,2]:=by refine(B8 (Q.of h m) ne q).b λb T s u c=>?_;refine{T,?_};rw[c, <-DM (λt o d hd=>Q.vv d ((uX Q ((a t).mp o)).2 d hd)) ((jX b).trans ((List.perm_ext_iff_of_nodup s j).mpr λk=>by rw[u,a];unfold Hj Mt;simp only[h])) (IC b)]
def Hk(Q:QC rows as hd vs ys)(c: ∀k,k∈F↔Hj rows as hd k):(∀t∈oN F, ∀d∈t,VS d)/\ ∀n,vO n ((oN F).map MV.tup):=by have b:=λt a d hd=>Q.vv d ((uX Q ((c t).mp ((jX F).mem_iff.mp a))).2 d hd);exact{b,λn=>xO λd hd=>by refine(mM.mp hd).a λt a j=>?_;subst j;exact gA (BU (b t a)).1}
def an_l(Q:QC rows as hd vs ys)(ne:as≠[])(b:F.Nodup)(a: ∀k,k∈F↔Hj rows as hd k)(c:S[lr]? =#[rows.map zY,2]):zC 2 rQ [#[lr,1],#[[.tup #[hd,8],.tup #[as,9]],6]] S=#[(oN F).map MV.tup,S,2]:=
 let ⟨_,h⟩:=an_f Q ne b a (λ_=>Iff.rfl) Q.rl c;gG rfl h ((Hk Q a).2 _)
end
noncomputable abbrev ob(c:Str)(d:MV):MV:=.obj c ["parts"] [d]
def LN(o:Db)(b:Bool):MV:=if b=true then .tup [.str [116,105,101],.int 0,.tup [.int 0],.int 0,.tup [.int 0]]else .tup [.str [110,101,118,101,114],.int 0,.tup [.tup [.tup [.str [99,101,108,108],.int 0,.int 0],.str [115,97,109,101],.tup [.str IS,.str o]]]]
def vN(o:Db)(b:Bool):MV:=if b=true then ob "Tie" (LN o true)else ob "Never" (LN o false)
abbrev vH(ts:Tk)(o:Db)(bs:L1)(rs:List Rw):MV:=.tup [.tup (ts.map tbl),.tup (bs.map (LN o)),.tup #[rs,9]]
def est(x y)(S):vK (.val (.str x)) (.val (.str y)) S=#[.bl (decide (x=y)),S,1]:=OL (GX _ x y)
def zFF(o)(b)(n):lo n (LN o b):=by cases b<;>(refine gA (?_:pd _=true);simp[LN,pd,YI])
def C1(o)(b)(n):lo n (vN o b):=by cases b<;>exact xO λe a=>by rw[mS.mp a];exact zFF o _ n
def oO(a:↑4=n)(c:F (zK rs S).1 (zK rs S).2=#[.bl b,S,1]):zC n F rs S=#[.bl b,S,1]:=yT a c (ZD _ _) (λl=>by simp)
def made(o)(b)(S):zC 1 JN [.val (LN o b)] S=#[vN o b,S,1]:=by
 have a: ∀{x:MV}{xs:Q0} S,yE #[(x::xs),6] _ S=.ok _ S:=λS=>ix_tup (atI_nat (j:=0) rfl);refine yT rfl ?_ (C1 o b _) (λl=>by cases b<;>simp[vN]);show zG _=_;refine zW ?_;cases b
 .exact jP (by unfold oX LN;simp? [jO];rfl)
 .exact zA (by unfold oX LN;simp? [jO];rfl) (zA (by unfold AR;simp? [jO];rfl) (by rfl))
def zFG(b: ∀S:Sto,zC 2 CP [#[↑2,1],.val q] (S++[.lst [x]])=#[.bl false,S++[.lst [x]],1]):zC 2 nR [.new [x],#[[q],6]] S=#[.bl false,S,1]:=by
 have a:zV (zU 0) cA kC [none,#[↑2]] [] [q] (S++[.lst [x]])=.ok [.bl false] _:=aZ rfl rfl (by unfold kC;simp? [b];rfl) (yU _) rfl;have c:nR [.loc ↑2,.tup [q]] (S++[.lst [x]])=#[.bl false,S++[.lst [x]],1]:=by show zG (nQ [some _,some _] _)=_;unfold nQ eC;simp? [show∀S,SR #[[q],6] S=.ok {[q],[]} S from λ_=>rfl];erw [a];rfl
 exact xX rfl c (ZD _ _) (λl=>by simp)
structure Gw(ts:Tk)(o:Db)(r:Rw):Prop where
 t:0<=r.1/\r.1<ts.length
 w: ∃d more,r.2=d::more
 v: ∀c∈r.2,VS c/\c≠.str o
section
theorem XT(r)(S):yE (.val (zY r)) #[0,5] S=.ok #[r.1,5] S:=ix_tup rfl
theorem zAM(r)(S):yE (.val (zY r)) #[1,5] S=.ok #[r.2,6] S:=ix_tup rfl
abbrev zFH(m:Str)(n:Nat)(a:List (Str×↑13))(d:MV)(xs:List Er)(b:Bool)(S:Sto):Prop:=
 ∃F,Ph m a (.val d)=some F/\zC n F (.val d::xs) S=#[.bl b,S,1]
theorem Zh(h:Gw ts o r)(b)(S):zFH "bars" 2 WI (vN o b) [.val (zY r)] false S:=by
 cases b
 case true=>exact Z3 aO rfl (oO rfl rfl)
 refine h.w.k λd more e=>?_;have hd:=h.v d (by rw[e];exact .head _);have B: ∀S,EA Yb "parts" (.val (vN o false)) S=#[LN o false,S,1]:=λ_=>rfl;have A: ∀S,yE (.val (LN o false)) #[1,5] S=.ok #[0,5] S:=λS=>ix_tup rfl;have F: ∀S,yE (.val (LN o false)) #[2,5] S=.ok _ S:=λS=>ix_tup rfl;refine Z3 sW rfl (oO rfl ?_);show zG (fY [some _,some (zY r)] S)=_;unfold fY lQ
 cases C:decide (r.1=0)with
 |false=>simp? [XT,B,A,C,Ue];rfl
 |true=>
  have E: ∀S:Sto,zC 2 bZ [#[[.str [99,101,108,108],.int 0,.int 0],6],#[↑2,1]] (S++[.lst [zY r]])=#[d,S++[.lst [zY r]],1]:=λS=>by have g:=zF S (.lst [zY r]);refine yT rfl ?_ (gA (oK hd.1).1) (λl=>by rcases hd.1 with⟨i,rfl⟩|⟨x,rfl⟩<;>simp);show zG (sT [some _,#[↑2]] _)=_;have m: ∀S,yE #[[.str [99,101,108,108],.int 0,.int 0],6] #[0,5] S=.ok _ S:=λS=>ix_tup rfl;have u: ∀S,yE #[[.str [99,101,108,108],.int 0,.int 0],6] #[1,5] S=.ok _ S:=λS=>ix_tup rfl;have s: ∀S,yE #[[.str [99,101,108,108],.int 0,.int 0],6] #[2,5] S=.ok _ S:=λS=>ix_tup rfl;exact zW (zA (by unfold bY;simp? [m,est];rfl) (by unfold lN;simp? [u,s,IZ g (i:=0) rfl,zAM,e,show∀S,yE #[(d::more),6] #[0,5] S=#[d,S,1] from λS=>ix_tup (atI_nat (j:=0) rfl)]))
  have D: ∀S:Sto,zC 2 bZ [#[[.str IS,.str o],6],#[↑2,1]] (S++[.lst [zY r]])=#[.str o,S++[.lst [zY r]],1]:=λS=>by refine yT rfl ?_ (OJ _ _) (λl=>by simp);unfold bZ fnJ;have m: ∀S,yE #[[.str IS,.str o],6] #[0,5] S=.ok _ S:=λS=>ix_tup rfl;exact zW (jP (by unfold bY;simp? [m,est,show∀S,yE #[[.str IS,.str o],6] #[1,5] S=.ok _ S from λS=>ix_tup rfl];rfl))
  have G:vK (.val d) (.val (.str o))=λS=>#[.bl false,S,1]:=funext λS=>(XA (oK hd.1) (BQ o)).trans (by rw[dF0 hd.2]);obtain⟨q,y⟩: ∃q:MV,q=.tup [.tup [.str [99,101,108,108],.int 0,.int 0],.str [115,97,109,101],.tup [.str IS,.str o]]:={_,rfl}
  have H: ∀S:Sto,zC 2 CP [#[↑2,1],.val q] (S++[.lst [zY r]])=#[.bl false,S++[.lst [zY r]],1]:=λS=>oO rfl (by show zG (JM [#[↑2],some q,none,none] _)=_;subst y;have m: ∀{a b c:MV} S,yE #[[a,b,c],6] #[0,5] S=#[a,S,1]:=λS=>ix_tup rfl;have u: ∀{a b c:MV} S,yE #[[a,b,c],6] #[1,5] S=#[b,S,1]:=λS=>ix_tup rfl;have s: ∀{a b c:MV} S,yE #[[a,b,c],6] #[2,5] S=#[c,S,1]:=λS=>ix_tup rfl;exact zW (zA (by unfold AK;simp? [m,E];rfl) (zA (by unfold AM;simp? [s,D];rfl) (jP (by unfold AN;simp? [u,est,G];rfl)))));have I:=zFG (S:=S) H;subst y;simp? [XT,B,A,C,Ue,F,I];rfl
end
def zAN(r q:Rw):Bool:=decide (q.1=0)&&decide (q.2.head? =r.2.head?)
def zFI(b:Bool)(r:Rw)(L:List Rw):Bool:=b&&decide (r.1=0)&& !L.any (zAN r)
def zAO(b:S[l]? =#[[d],2])(hd:VS d)(a:VS e):vK (.new [e]) #[l,1] S=#[.bl (decide (e=d)),S,1]:=by
 have c:RA S #[l,1]=some (.ls [d]):=by show(xQ S _).map Vw.ls=_;rw[lB b];rfl
 have e:EW S zO (.new [e]) #[l,1]=some (decide (e=d)):=by unfold EW;rw[c];show((eqv S 40 e d).bind λk=>(some _).map (k::·)).map (λbs=>bs.all id)=_;rw[oH 40 (oK a).1 (oK hd).1 (oK a).2];simp
 unfold vK;rw[e]
section
variable{d:MV}{more:Q0}
def Hl(e:r.2=d::more)(hd:VS d)(S):zC 2 lP [.val (zY r),#[[.int 0],6]] S=#[[d],S,2]:=gG rfl (by show zG (sV [some _,some _] _)=_;have a:zV (zU 0) lO cB [none,some (zY r)] [] [.int 0] S=.ok [d] S:=aZ rfl rfl (by unfold cB;simp? [zAM,e,show∀S,yE #[(d::more),6] #[0,5] S=.ok _ S from λS=>ix_tup (atI_nat rfl)]) (yU _) rfl;unfold sV sU;simp? [show∀S,SR #[[.int 0],6] S=.ok {[.int 0],[]} S from λ_=>rfl];erw [a];rw[aN];rfl) (xO λe b=>by rw[mS.mp b];exact gA (oK hd).1)
def C4(h:Gw ts o r)(P: ∀q∈L,Gw ts o q)(U:L.length<=1)(b)(S): ∃F,Ph "lacks" AS (.val (vN o b))=some F/\zC 3 F [.val (vN o b),.val (zY r),.new #[L,9]] S=#[.bl (zFI b r L),S,1]:=by
 cases b
 case false=>exact Z3 cC rfl (xX rfl rfl (ZD _ _) (λl=>by simp))
 have I: ∀{q:Rw},Gw ts o q-> ∃d more,q.2=d::more/\VS d:=λh=>by refine h.w.k λd more e=>?_;exact ZX d more e ((h.v d (by rw[e];exact .head _)).1)
 refine(I h).d λd more e hd=>?_;have m: ∀S,EA Yb "parts" (.val (vN o true)) S=.ok _ S:=λ_=>rfl;have H: ∀S,yE (.val (LN o true)) #[1,5] S=.ok #[0,5] S:=λS=>ix_tup rfl;have M: ∀S,yE (.val (LN o true)) #[2,5] S=.ok _ S:=λS=>ix_tup rfl;have A: ∀S,yE (.val (LN o true)) #[3,5] S=.ok #[0,5] S:=λS=>ix_tup rfl;have G: ∀S,yE (.val (LN o true)) #[4,5] S=.ok _ S:=λS=>ix_tup rfl;have u: ∀{b T},aQ [some (vN o true),some (zY r),#[↑2],none,none] (S++[.lst #[L,9]])=.ok _ (S++[.lst #[L,9]]++T)-> ∃F,Ph "lacks" AS (.val (vN o true))=some F/\zC 3 F [.val (vN o true),.val (zY r),.new #[L,9]] S=#[.bl b,S,1]:=λ{b T} O=>(Z3 AQ rfl (xX rfl (by show zG (aQ _ _)=_;rw[<-aA];exact zW O) (ZD _ _) (λl=>by simp)))
 unfold aQ at u;have J:=zF S (.lst #[L,9]);generalize S++[.lst #[L,9]]=S1 at u J;unfold zFI
 cases K:decide (r.1=0)with
 |false=>exact u (T:=[]) (jP (by unfold nS;simp? [XT,m,H,ne_int,K];rw[aN];rfl))
 |true=>
  have N:=zF S1 (.lst [d]);have a:=zI (L:=[.lst [d]]) J;refine u (T:=[.lst [d]]) (zA (by unfold nS;simp? [XT,m,H,ne_int,K];rfl) (zA (by unfold pV;simp? [m,M,Hl e hd];rfl) ?_))
  match L,U with
  |[],_=>exact zA (by unfold nT;simp? [yV a];rfl) rfl
  |[q],_=>
   have Q:=P q (.head _);refine(I Q).d λE y C s=>?_;have B:zU 4 (zY q) [some (vN o true),some (zY r),#[↑2],#[S1.length],none] (S1++[.lst [d]])=.ok [some (vN o true),some (zY r),#[↑2],#[S1.length],some (zY q)] _:=rfl;unfold nT;have D:zC 2 lP [.val (zY q),#[[.int 0],6]] (S1++[.lst [d]])=#[[E],_,2]:=Hl C s _;have eq:=zAO N hd s;rw[List.any_cons,List.any_nil,Bool.or_false];unfold zAN;rw[e,C,List.head?_cons,List.head?_cons]
   cases j:decide (q.1=0)with
   |false=>exact zA (by simp? [yV a];exact(yC B (by unfold gH wQ;simp? [XT,m,A,j];rfl) (yG a)).trans rfl) rfl
   |true=>
    cases c:decide (E=d)with
    |false=>exact zA (by simp? [yV a];exact(yC B (by unfold gH wQ;simp? [XT,m,A,j,G,D,eq,c];rfl) (yG a)).trans rfl) (by rw[dF0 λz=>of_decide_eq_false c (è z)];rfl)
    |true=>exact jP (by simp? [yV a];exact(ML B (by unfold gH wQ;simp? [XT,m,A,j,G,D,eq,c];rfl)).trans (by rw[dT0 (congrArg some (ė c))];rfl))
end
abbrev kI(n:Nat):MV:=.tup ((List.range n).map zN)
abbrev Ln(n:Nat):Ev:=(List.range n).map λi=>(zN i,MV.bl true)
def GL(n m):vO m ((List.range n).map zN):=xO λd hd=>by refine(mM.mp hd).a λi _ a=>?_;subst a;exact vZ _ _
def Ri(h:S[l]? =#[Ln n,7]):lG S #[l,1]=some (l,Ln n):=by unfold lG;dsimp only;rw[h];exact iP ((by rw[all_map];exact ü.mpr λ_ _=>rfl))
theorem zFJ(h:S[l]? =#[Ln n,7])(a:j<n):DR false (.val (zN j)) #[l,1] S=#[.bl true,S,1]:=by
 unfold DR;rw[Ri h]
 have e:(look (Ln n) (zN j)).isSome=true:=by
  cases z:look _ _ with
  |none=>exact absurd rfl ((λh=>by unfold look at z;rw[Option.map_eq_none_iff,List.find?_eq_none]at z;exact z _ (ľ (ē.mpr a)) (dT0 h)))
  |some d=>rfl
 show(if sM _=true then _ else _)=_;rw[iP (show sM _=true from rfl),e];rfl
def zAP(n)(S):Gf [.new ((List.range n).map λi=>.tup [zN i,.bl true])] S=.ok #[↑2,1] (S++[.dic (Ln n)]):=by
 have a: ∀K:List Nat,sN (K.map λi=>.tup [zN i,.bl true])=some (K.map λi=>(zN i,MV.bl true)):=λK=>by
  induction K with
  |nil=>rfl
  |cons k K ih=>rw[ç];unfold sN;rw[ih];rfl
 show(match (xQ S _).bind sN with |some kvs=>R.ok _ _|none=>.no)=_;rw[show(xQ S (.new _)).bind sN=some _ from a _];show R.ok _ _=_;rw[show Ge _=Ln n from QI _ [] (by rw[ī,Ă];refine pairwise_map.mpr (List.nodup_range.imp λh e=>h ((by
   injection e with e
   exact Int.ofNat.inj e))))]
theorem zAQ(h:S[l]? =#[Ln n,7]):TD [#[l,1]] S=#[kI n,S,1]:=by unfold TD;dsimp only;rw[Ri h];show R.ok _ S=_;rw[Ă];rfl
def TA(n:Nat)(S:Sto)(d:MV):Prop:= ∃(i p j:Nat)(more:Q0),d=.tup [zN i,.loc p]/\S[p]? =#[(zN j::more),2]/\j<n
def TA.app(h:TA n S d):TA n (S++T) d:=let ⟨i,p,j,more,e,b,a⟩:=h;(ZB i p j more {e,zI b,a})
theorem Rj(a:S[lk]? =#[Ln n,7])(c:S[lt]? =#[ms,2])(v:ms.length<1000)(h: ∀d∈ms,TA n S d):zC 2 cL [#[lt,1],#[lk,1]] S=#[[],S,2]:=gG rfl (by
 show zG (cK [some _,some _] S)=_
 have o:zV (aM 2 (zB (zU 0) (zB (zU 1) zZ))) wG bH [none,none,some _] [_] ms S=.ok [] S:=CL (yG c) λd hd=>by
  refine(h d hd).j λi p j more k=>k.f λy u m=>?_;subst y;refine Z3 ([some _,some _,#[lk]]) rfl ?_;have s:zC 2 tK [#[lk,1],#[p,1]] S=#[.bl true,S,1]:=oO rfl (by show zG (tI [some _,some _,none] S)=_;exact zW (jP (by unfold mB;simp? [yV u];exact ML rfl (by unfold lZ dU;simp? [zFJ a m]))));have hi: ∃b,DR false (.val (zN i)) #[lk,1] S=#[.bl b,S,1]:=by unfold DR;rw[Ri a];exact{_,rfl}
  obtain⟨b,q⟩:=hi;unfold wG;cases b<;>(simp? [q,s];rfl)
 unfold cK dW;simp? [yV c,show(ms.length<1000000)=True from eq_true #[]];erw [o];rw[aN];rfl) trivial
theorem zAR(q:n<1000)(o:S[lt]? =#[ms,2])(j:ms.length<1000)(h: ∀d∈ms,TA n S d)(b:S[la]? =#[(List.range n).map zN,2]): ∃T,gI [.loc lt,.loc la] S=#[kI n,S++T,1]:=by
 have m:zV (zU 0) cM cN [none] [_] ((List.range n).map zN) S=.ok _ S:=yW (yG b) λi _=>{_,rfl,rfl,by exists 7,tup2}
 have a:=zF S (.dic (Ln n));have c:=zF (S++[.dic (Ln n)]) (.lst []);refine{[.dic (Ln n)]++[.lst []],?_};show zG (pZ [some _,some _,none,none,none] S)=_;rw[<-aA];exact zW (zA (by unfold eF;simp? [yV b,lM,ú,show n<1000000 by lia];erw [m];simp? [zAP];rfl) (zA (by unfold eH;simp? [Rj a (zI o) j λd hd=>(h d hd).app];rfl) (zA (by unfold eI;exact Jg (by unfold rN;simp? [HV c];rfl)) (by unfold eK;simp? [zAQ (zI a)]))))
def Zi(n:Nat)(S:Sto)(r:Er):Prop:=r=.new []\/ ∃l a,r=#[l,1]/\S[l]? =#[a,2]/\a.length<1000/\ ∀d∈a,TA n S d
def Rk(c:n<1000)(s:Zi n S r)(m:q=.new ((List.range n).map zN)\/ ∃j,q=#[j,1]/\S[j]? =#[(List.range n).map zN,2]):zC 2 gI [r,q] S=#[kI n,S,1]:=by
 obtain⟨lt,j,a,b,u,v,y,h,w⟩: ∃lt j a b,zK [r,q] S=([.loc lt,.loc j],S++b)/\(S++b)[lt]? =#[a,2]/\a.length<1000/\(∀d∈a,TA n (S++b) d)/\(S++b)[j]? =#[(List.range n).map zN,2]:=by
  rcases s with rfl|⟨l,a,rfl,g1,g2,g3⟩<;>rcases m with rfl|⟨j,rfl,ga⟩
  .exact(ZB S.length (S.length+1) ([]) ([.lst []]++[.lst ((List.range n).map zN)]) {(by rw[<-aA];simp[zK]),(by simp),(by simp),(λd hd=>(nomatch hd)),(by simp)})
  .exact(ZB S.length j ([]) ([.lst []]) {rfl,zF _ _,(by simp),(λd hd=>(nomatch hd)),zI ga})
  .exact(ZB l (↑2) a ([.lst _]) {rfl,zI g1,g2,(λd hd=>(g3 d hd).app),zF _ _})
  .exact(ZB l j a ([]) {(by rw[aN];rfl),zI g1,g2,(λd hd=>(g3 d hd).app),zI ga})
 obtain⟨T,o⟩:=zAR c v y h w;exact xX rfl (by rw[u];exact o.trans (by rw[aA])) (iZ (GL _ _)) (λl=>by simp)
section
noncomputable def kyT(ts:Tk)(t:Int):Int:=((ts[t.toNat]?).getD (0,0)).2
def rA(ts:Tk)(r:Rw):MV:=.tup [.int r.1,.tup (dM r.2 none (some (kyT ts r.1)))]
structure Bo(ts:Tk)(o:Db)(bs:L1)(rs:List Rw):Prop where
 g: ∀r∈rs,Gw ts o r
 n:↑4<=30
 b:bs.length<=2
 k:rs.Pairwise λa c=>rA ts a≠rA ts c
variable{bs:L1}
noncomputable def RO(rs:List Rw)(i:Nat):Rw:=(rs[i]?).getD (0,[])
def IF(h:i<↑4):RO rs i∈rs:=by unfold RO;rw[gE h];exact Ľ h
def Eb(h:i<↑4)(S):yE #[rs.map zY,6] (.val (zN i)) S=#[zY (RO rs i),S,1]:=ix_tup (atI_nat (by unfold RO;rw[ë,gE h];rfl))
theorem zFK(S):yE (.val ↑10) #[0,5] S=.ok #[ts.map tbl,6] S:=ix_tup rfl
theorem book1(S):yE (.val ↑10) #[1,5] S=.ok #[bs.map (LN o),6] S:=ix_tup rfl
theorem IG(S):yE (.val ↑10) #[2,5] S=.ok #[rs.map zY,6] S:=ix_tup rfl
theorem pQ(ds)(S):SR #[ds,6] S=.ok {ds,[]} S:=rfl
theorem pR(ds)(S):vI (.new ds) S=.ok {ds,[]} S:=rfl
theorem XU(c:bs.length<=2)(S):zC 1 lW [.val ↑10] S=#[bs.map (vN o),S,2]:=gG rfl (by
 show zG (sY [some _] S)=_;have a:zV (zU 0) lV cE [none] [] _ S=.ok (bs.map (vN o)) S:=yW (yU _) λb _=>(Z0 ([some (LN o b)]) rfl rfl (by unfold cE;simp? [made]))
 unfold sY sX;simp? [book1,pQ,lM,show bs.length<1000000 by lia];erw [a];rw[aN];rfl) ((xO λd hd=>by refine(mM.mp hd).a λb _ j=>?_;subst j;exact C1 o b _))
def UJ(S):VT [#[rs.map zY,6]] S=.ok {(List.range ↑4).map λi=>.tup [zN i,zY (RO rs i)],[]} S:=by show R.ok _ S=_;rw[(show vL #[rs,9]=(List.range ↑4).map λi=>.tup [zN i,zY (RO rs i)] by
  unfold vL;apply ŉ;intro m;by_cases a:m<↑4
  .simp only[ë,List.getElem?_zipIdx,getElem?_range a,Option.map_some,Nat.zero_add];unfold RO;rw[gE a];rfl
  .rw[Ĕ (by rw[lM,length_zipIdx,lM];lia),Ĕ (by rw[lM,ú];lia)])]
noncomputable abbrev T5(b:MV)(l:Nat)(x y z:R0):Rho:=[some b,#[l],x,y,z]
def TI(b:Sto)(n c:Nat)(Z:Sto):Prop:= ∃a T,Z=b++MO.lst a::T/\a.length<=c/\ ∀d∈a, ∃(i k j:Nat)(more:Q0),d=.tup [zN i,.loc (b.length+1+k)]/\T[k]? =#[(zN j::more),2]/\j<n
theorem Rl(B:Bo ts o bs rs)(b)(hi:i<↑4)(S:c<1000)(h:TI S0 ↑4 c Z):
  ∃I,aR (T5 ↑10 S0.length (some (vN o b)) (some (zN i)) (some (zY (RO rs i)))) Z=#[T5 ↑10 S0.length (some (vN o b)) (some (zN i)) (some (zY (RO rs i))),I,0]/\TI S0 ↑4 (c+1) I:=by
 have H:=B.g _ (IF hi);refine(C4 H (L:=[]) (λq h=>(nomatch h)) (by decide) b Z).a λF J Q=>?_;have v:zC 3 F [.val _,.val _,.new []] Z=.ok _ Z:=Q
 cases w:zFI b (RO rs i) []with
 |false=>
  rw[w]at v;refine h.b λm T e P hd=>?_;exact{Z,by unfold aR nV;simp? [RH,J,v];rfl,m,T,e,by lia,hd}
 |true=>
  rw[w]at v;refine h.b λm T V P hd=>?_;subst V;have D:(S0++MO.lst m::T)[S0.length]? =#[m,2]:=wW _ _ _;obtain⟨a,s⟩: ∃a,a=(List.range ↑4).filter λj=>!zFI b (RO rs i) [RO rs j]:={_,rfl}
  have G:zV (aM 2 (zB (zU 0) (zB (zU 1) zZ))) nU pX [none,none,some (vN o b),some (zY (RO rs i))] [] ((List.range ↑4).map λi=>.tup [zN i,zY (RO rs i)]) (S0++MO.lst m::T)=.ok (a.map zN) (S0++MO.lst m::T):=by rw[s];exact GD (yU _) λj y=>by rw[ē]at y;obtain⟨F,M,O⟩:=C4 H (L:=[RO rs j]) (λq h=>by rw[mS.mp h];exact B.g _ (IF y)) (à 1) b _;refine Z0 _ rfl ?_ rfl;have E:zC 3 F [.val _,.val _,.new [zY _]] (S0++MO.lst m::T)=.ok _ _:=O;unfold nU;simp? [lst1,M,E]
  have C:i∈a:=by rw[s,Ē];refine{ē.mpr hi,?_};unfold zFI at w ⊢;simp only[aE]at w;rw[w.1.1,w.1.2,List.any_cons,List.any_nil];unfold zAN;rw[w.1.2];simp
  obtain⟨j,more,A⟩: ∃j more,a=j::more:=List.exists_cons_of_ne_nil λz=>by rw[z]at C;cases C
  have y:j<rs.length:=ē.mp (Ē.mp (by rw[<-s,A];exact .head _)).1;have N: ∀x,(S0++MO.lst m::(T++[x]))[S0.length]? =#[m,2]:=λx=>wW _ _ _;refine{S0++MO.lst (m++[.tup [zN i,.loc (S0++MO.lst m::T).length]])::(T++[.lst (a.map zN)]),?_,_,_,rfl,by rw[lA];simp;lia,λd u=>?_}
  .unfold aR nV;simp? [RH,J,v,xD D,IG,UJ,lM,ú,show ↑4<1000000 by have:=B.n;lia];erw [G];simp? [jO];rw[show yH [.val (zN i),.new _] _=.ok _ (S0++MO.lst m::(T++[.lst (a.map zN)]))from(FA (by simp)).trans (by show R.ok _ (_++[_])=_;rw[aA];rfl)];simp? [wM (N _) #[]];rw[Ą _ _ (à _),sub_self];rfl
  .rcases ì.mp u with u|u
   .refine(hd d u).j λi k j more U=>U.f λe K y=>?_;exact ZB i k j more {e,zI K,y}
   .refine(ZB i T.length j (more.map zN) {?_,(by rw[zF,A];rfl),y});rw[mS.mp u,lA,lC,show S0.length+(T.length+1)=S0.length+1+T.length by lia]
theorem Rm(B:Bo ts o bs rs)(S): ∃r T,zC 1 rM [.val ↑10] S=.ok r (S++T)/\Zi ↑4 (S++T) r:=by
 have D:=B.n;have C:=B.b;have G:rs.length * bs.length<=30 * 2:=mul_le_mul D C;obtain⟨A,u,v,⟨x,y,z,a⟩,q⟩:=aK (n:=bs.length) (gf:=zU 2) (body:=oZ) (λk c Z=>(∃x y z,c=T5 (vH ts o bs rs) S.length x y z)/\TI S rs.length (rs.length * k) Z) (bs.map (vN o)) (by rw[lM];lia) {(Zj _ _ _ rfl),[],[],rfl,by simp,λd h=>(nomatch h)} (λd hd k E c Z ⟨⟨x,y,z,a⟩,w⟩=>by refine(mM.mp hd).a λb _ W=>?_;subst W;subst a;have L:rs.length * k<=30 * 2:=mul_le_mul D #[];obtain⟨A,u,v,⟨Q,P,a⟩,q⟩:=aK (n:=rs.length) (gf:=aM 2 (zB (zU 3) (zB (zU 4) zZ))) (λm c Z=>(∃y z,c=T5 (vH ts o bs rs) S.length (some (vN o b)) y z)/\TI S rs.length (rs.length * k+m) Z) ((List.range rs.length).map λi=>.tup [zN i,zY (RO rs i)]) (S:=Z) (by rw[lM,ú];lia) {{_,_,rfl},w} (λd hd m M c Z ⟨⟨y,z,a⟩,w⟩=>by refine(mM.mp hd).a λi hi Y=>?_;subst Y;subst a;refine(Rl B b (ē.mp hi) #[] w).a λu H J=>?_;exact Ze _ _ u rfl H (Y6 _ _ rfl) J);subst a;rw[lM,ú]at q;exact Ze _ _ u rfl (by unfold oZ pY;simp? [IG,UJ];exact v) (Zj _ _ _ rfl) q);subst a;rw[lM]at q;refine q.b λs T ac M hd=>?_;subst ac;refine(UG (n:=1) (F:=rM) (rs:=[.val (vH ts o bs rs)]) rfl (show zG (CQ [some _,none,none,none,none] S)=.ok _ (S++MO.lst s::T) by unfold CQ;exact zW (zA (by unfold AT;simp? [RH];rfl) (zA (by unfold AU;simp? [XU C,pR];exact v) (by rfl)))) (à _) (wW _ _ _)).d λr I O K=>?_;refine ZX r I O ?_;rcases K with⟨rfl,rfl⟩|⟨rfl,rfl,hlo⟩
 .exact .inr (Zo _ s rfl (wW _ _ _) (by lia) (λd h=>by refine(hd d h).j λi k j more U=>U.f λe E N=>?_;exact ZB i _ j more {e,(by rw[show S++MO.lst s::T=(S++[MO.lst s])++T by simp];exact(GF (by simp)).trans E),N}))
 .cases s with
  |nil=>exact .inl rfl
  |cons d r=>
   refine(hd d (.head _)).j λi k j more V=>V.f λam _ _=>?_;subst am;unfold vO lo vO vO lo at hlo;have:=hlo.1.2.1
   lia
end
section
variable{bs:L1}
def zAT{α:Type}(xs:List α)(S):Oc [.new (xs.map λ_=>.bl false)] S=#[.bl false,S,1]:=by
 have h: ∀xs:List α,DZ (xs.map λ_=>.bl false)=some (xs.map λ_=>false):=λxs=>by
  induction xs with
  |nil=>rfl
  |cons x xs ih=>rw[ç];unfold DZ;rw[ih];rfl
 show(match (some _).bind DZ with |some bs=>R.ok _ S|none=>.no)=_;rw[show(some _).bind DZ=some _ from h xs];show R.ok _ S=_;rw[show _=λ_=>false from rfl];simp
theorem Ro(B:Bo ts o bs rs)(S):zC 2 PK [.val ↑10,.val (kI ↑4)] S=#[kI ↑4,S,1]:=by
 have q:=B.b;have C:=B.n;have j:=zF S (.lst (bs.map (vN o)));have c: ∀{T},WJ [some ↑10,some (kI ↑4),none,none] S=.ok _ (S++T)->zC 2 PK [.val _,.val _] S=#[kI ↑4,S,1]:=λh=>xX rfl (zW h) (iZ (GL _ _)) (λl=>by simp);unfold WJ at c
 have a:zV (zU 0) tN FL [none,some _,#[↑2]] [] _ _=.ok _ (S++[.lst (bs.map (vN o))]):=yW (yU _) λi hi=>by
  rw[ē]at hi;have m:zV (zU 0) FK tL [none,some (zN i),some ↑10] [_] (bs.map (vN o)) _=.ok (bs.map λ_=>.bl false) _:=yW (yG j) λb _=>by refine(Zh (B.g _ (IF hi)) b (S++[.lst (bs.map (vN o))])).a λF A u=>?_;refine Z0 _ rfl rfl ?_;unfold tL;simp? [IG,Eb hi,A,u]
  refine Z0 _ rfl ?_ rfl;unfold tN;simp? [yV j,lM,show bs.length<1000000 by lia];erw [m];simp? [zAT];rfl
 have y:=zF (S++[.lst (bs.map (vN o))]) (.lst ((List.range ↑4).map zN));obtain⟨t,T,s,w⟩:=Rm B _;have v:=Rk #[] w (.inr {_,rfl,zI y});refine c (zA (by unfold PF;simp? [XU q];rfl) (zA (by unfold PH;simp? [pQ,lM,ú,show ↑4<1000000 by lia];erw [a];rfl) (by unfold PJ;simp? [s,v];rw[<-aA, <-aA])))
abbrev C5(p:Nat×Nat):MV:=.tup [zN p.1,zN p.2]
theorem Zk(P:n<=30)(S): ∃L:List (Nat×Nat),L.length<=900/\(∀p∈L,p.1<p.2/\p.2<n)/\zC 1 FG [.val (kI n)] S=#[L.map C5,S,2]:=by
 obtain⟨O,U,J,⟨x,y,o⟩,L,A,F,w⟩:=aK (n:=n) (gf:=aM 2 (zB (zU 2) (zB (zU 3) zZ))) (body:=fZ) (λk E Z=>(∃x y,E=[some (kI n),#[S.length],x,y])/\ ∃L:List (Nat×Nat),Z=S++[.lst (L.map C5)]/\L.length<=30 * k/\ ∀p∈L,p.1<p.2/\p.2<n) ((List.range n).map λi=>.tup [zN i,zN i]) (S:=S++[.lst []]) (by simp) {(Y6 _ _ rfl),[],rfl,by simp,λp h=>(nomatch h)} (λd hd k Q E Z ⟨⟨x,y,o⟩,L,K,F,w⟩=>by
  refine(mM.mp hd).a λi hi V=>?_;subst V;rw[ē]at hi;subst o K;have H:=zF S (.lst (L.map C5));have c:dM ((List.range n).map zN) (some ((i:Nat)+1)) none=((List.range n).drop (i+1)).map zN:=by rw[Oq,show((i:Nat):Int)+1=((i+1:Nat):Int)from rfl,KA]
  have G:zV (zU 0) lX cF [none,some (zN i)] [] (((List.range n).drop (i+1)).map zN) (S++[.lst (L.map C5)])=.ok _ _:=yW (yU _) λq _=>{_,rfl,rfl,by unfold cF;exists 7,tup2}
  have B:((List.range n).drop (i+1)).length<=30:=by refine qq Ĩ (qq ú ?_);omega
  have s: ∀j∈(List.range n).drop (i+1),i<j/\j<n:=λj C=>by
   obtain⟨m,s,rfl⟩:=List.mem_iff_getElem.mp C;rw[Ĩ,ú]at s;rw[getElem_drop,List.getElem_range]
   omega
  have I:(L.map C5).length+(((List.range n).drop (i+1)).map λj=>C5 (i,j)).length<=1000000:=by rw[lM,lM];omega
  generalize (List.range n).drop (i+1)=D at G B s c I;refine{[some (kI n),#[↑2],some (zN i),some (zN i)],_,_,rfl,?_,{some (zN i),some (zN i),rfl},L++D.map λj=>(i,j),rfl,by rw[lA,lM];omega,λp u=>?_}
  .unfold fZ lY;simp? [xD H,show∀S,kL (.val (zN i)) #[1,5] S=.ok _ S from λ_=>rfl,show∀N a b S,DP #[N,6] a b S=.ok _ S from λ_ _ _ _=>rfl,c,pQ,lM,show D.length<1000000 by omega];erw [G];simp? [Yj H I];rw[ù,Ă,Ą _ _ (à _),sub_self];rfl
  .rcases ì.mp u with u|u
   .exact w p u
   .refine(mM.mp u).a λj C W=>?_;subst W;exact s j C)
 subst o A
 have v:vL ((List.range n).map zN)=(List.range n).map λi=>.tup [zN i,zN i]:=by
  unfold vL;apply ŉ;intro m;by_cases s:m<n
  .simp[getElem?_range s]
  .rw[Ĕ (by simp;omega),Ĕ (by simp;omega)]
 have M:VT [.val (kI n)] (S++[.lst []])=.ok {(List.range n).map λi=>.tup [zN i,zN i],[]} (S++[.lst []]):=by show R.ok _ _=_;exact qq v rfl
 refine Z0 L (by simp at F;omega) w (xL (T:=[.lst (L.map C5)]) (S2:=S) rfl rfl ?_ (.inr (Z0 (↑2) rfl (à _) (zF _ _))) (xO λd hd=>by refine(mM.mp hd).a λp _ Y=>?_;subst Y;exact gA (by simp[pd,YI])));show zG (tH [some _,none,none,none] S)=_;unfold tH;exact zW (zA (by unfold tF;simp? [RH];rfl) (zA (by unfold tG;simp? [M];exact J) (by rfl)))
end
section
variable{ts:Tk}{r:Rw}
def Rp(h: ∀d∈r.2,VS d):pd (rA ts r)=true/\EM (rA ts r)<40:=B2 λd hd=>h d (List.mem_of_mem_drop (List.mem_of_mem_take hd))
theorem zFL(h:0<=r.1/\r.1<ts.length)(S):yE #[ts.map tbl,6] #[r.1,5] S=#[tbl ((ts[r.1.toNat]?).getD (0,0)),S,1]:=ix_tup (by obtain⟨j,a⟩:=Int.eq_ofNat_of_zero_le h.1;rw[a];refine atI_nat ?_;rw[ë,ą,gE #[]];rfl)
theorem t_1(p)(S):yE (.val (tbl p)) #[1,5] S=.ok #[p.2,5] S:=ix_tup rfl
def Gw.k(h:Gw ts o r):pd (rA ts r)=true/\EM (rA ts r)<40:=Rp λd hd=>(h.v d hd).1
theorem C6(h:Gw ts o r)(S):zC 2 HM [#[ts.map tbl,6],.val (zY r)] S=#[rA ts r,S,1]:=by refine yT rfl ?_ (gA h.k.1) (λl=>by simp[rA]);show zG (HL [some _,some _] S)=_;unfold HL FH;simp? [XT,zFL h.t,t_1,XB,tup2];rfl
theorem zFM(B:Bo ts o bs rs)(c:i<j)(a:j<↑4)(q:S[lr]? =#[bs.map (vN o),2]):zC 4 eE [.val ↑10,#[lr,1],.val (zN i),.val (zN j)] S=#[[],S,2]:=by
 have hi:i<rs.length:=by lia
 have s:=B.g _ (IF hi);have m:=B.g _ (IF a);have u: ∀S,vK _ _ S=.ok _ S:=λS=>(XA s.k m.k.1).trans (by rw[dF0];have:=List.pairwise_iff_getElem.mp B.k i j hi a c;unfold RO;rw[gE hi,gE a];exact this);have v: ∀L:List MV,(∀d∈L, ∃k b,d=.tup [k,vN o b])->zV (aM 2 (zB (zU 0) (zB (zU 1) zZ))) xT gB [none,none,some (zN i),some (zN j),some (zY (RO rs i)),some (zY (RO rs j))] [_] L S=.ok [] S:=λL C=>CL (yG q) λd hd=>by refine(C d hd).k λk b I=>?_;subst I;refine((show zFH "parts_them" 3 pW (vN o b) [.val (zY (RO rs i)),.val (zY (RO rs j))] false S by cases b<;>exact{xG,rfl,oO rfl rfl})).a λF G A=>?_;refine{[some k,some _,_,_,_,_],rfl,?_};unfold xT;simp? [G,A]
 have D:VT [#[lr,1]] S=.ok {vL (bs.map (vN o)),[(lr,bs.map (vN o))]} S:=by unfold VT srcOf;dsimp only;rw[q]
 have w: ∀d∈vL (bs.map (vN o)), ∃k b,d=.tup [k,vN o b]:=λd hd=>by unfold vL at hd;refine(mM.mp hd).a λp y J=>?_;subst J;refine(mM.mp (List.fst_mem_of_mem_zipIdx y)).a λb _ e=>?_;exact Y6 _ b (by rw[<-e])
 have E:(vL (bs.map (vN o))).length<1000000:=by
  unfold vL;rw[lM,length_zipIdx,lM];have:=B.b
  lia
 refine xL rfl rfl ?_ (.inr (Z0 _ rfl (à _) (zF _ _))) trivial;show zG (gR [some _,some _,some _,some _,none,none,none] S)=_;unfold gR;exact zW (zA (by unfold cG;simp? [IG,Eb hi];rfl) (zA (by unfold cH;simp? [IG,Eb a];rfl) (zA (by unfold cI;simp? [D,E];erw [v _ w];rfl) (zA (by unfold cJ;simp? [zFK,C6 s,C6 m,u];rfl) rfl))))
theorem Rq(a:↑4<=30)(S):zC 1 tE [.val ↑10] S=#[kI ↑4,S,1]:=by refine xX (T:=[]) rfl ?_ (iZ (GL _ _)) (λl=>by simp);show zG (tD [some _] S)=_;unfold tD sZ;simp? [IG,DE,lM];unfold HD;dsimp only;rw[iP #[],aN];rw[Ă];rfl
theorem Lf(B:Bo ts o bs rs)(S):zC 1 JO [.val ↑10] S=#[[],S,2]:=by
 have m:=B.b;refine(Zk B.n (S++[.lst (bs.map (vN o))])).c λL q c a=>?_;have j:zV (aM 2 (zB (zU 0) (zB (zU 1) zZ))) nW qA [none,none,some ↑10,#[↑2]] [] (L.map C5) (S++[.lst (bs.map (vN o))])=.ok [] _:=CL (yU _) λd hd=>by refine(mM.mp hd).a λp a k=>?_;subst k;refine{[some _,some _,_,_],rfl,?_};unfold nW;simp? [zFM B (c p a).1 (c p a).2 (zF S _)];rfl
 refine gG (T:=[.lst (bs.map (vN o))]) rfl ?_ trivial;show zG (CS [some _,none] S)=_;unfold CS;refine zW (zA (by unfold AW;simp? [XU m];rfl) ?_);unfold BA;simp? [Rq B.n,Ro B,a,pR,lM,show L.length<1000000 by lia];erw [j];rfl
def zAU(B:Bo ts o bs rs)(S):zC 1 JQ [.val ↑10] S=.ok #[↑2,1] (S++[.dic []]):=nH rfl (show zG (JP [some _,none,none,none] S)=_ from zW (zA (by unfold BB;simp? [jO];rfl) (zA (by unfold BC;simp? [Lf B,pR];rfl) (by rfl)))) (à _) (zF _ _)
end
theorem Zl(n)(S):Ag [.new [kI n]] S=#[[kI n],S,2]:=rfl
section
def zAV(n)(S):zC 2 bI [.val (kI n),.val (kI n)] S=#[.bl false,S,1]:=oO rfl (by show zG (wH [some _,some _] S)=_;unfold wH kQ;simp? [DE,show∀(i j:Int) S,Q3 #[i,5] #[j,5] S=.ok _ S from λ_ _ _=>rfl,dF0 (Int.lt_irrefl _)];rfl)
theorem Ec(n)(a:n<64)(S):ZM [.new ((List.range n).map zN)] S=#[(List.range n).map zN,S,2]:=by
 have hi: ∀K:List Nat,intsOf (K.map zN)=some (K.map Int.ofNat):=λK=>by
  induction K with
  |nil=>rfl
  |cons k K ih=>show(intsOf _).map _=_;rw[ih];rfl
 show(if((List.range n).map zN).length<64 then(match intsOf _ with |some ns=>R.ok _ S|none=>.no)else .no)=_;rw[iP (by simpa using a),hi];have e:(List.range n).map Int.ofNat=PySem.W.sortI _:=PySem.W.eq_sortI (.refl _) (pairwise_map.mpr (List.pairwise_lt_range.imp λh=>Int.ofNat_le.mpr (le_of_lt h)));show R.ok _ S=_;rw[<-e,Ă];rfl
def Zm(h:S[l]? =#[[],7]):zC 1 eO [#[l,1]] S=#[[.tup []],S,2]:=by
 have a: ∀{S:Sto},S[l]? =#[[],7]->TF [#[l,1]] S=#[[],S,2]:=λh=>by unfold TF;dsimp only;rw[show lG _ _=some _ by unfold lG;dsimp only;rw[h];rfl];dsimp only;show R.ok _ _=_;rw[show PySem.W.sortI []=[]from(PySem.W.eq_sortI (.refl _) .nil).symm];rfl
 refine xL (T:=[.lst []]++[.lst [.tup []]]) rfl rfl ?_ (.inr {_,rfl,le_succ _,by rw[<-aA];simp}) (xO λd hd=>by rw[mS.mp hd];exact iZ trivial);show zG (gT [some _,none,none,none,none,none,none] S)=_;unfold gT;rw[<-aA];exact zW (zA (by unfold cO;simp? [RH];rfl) (zA (by unfold cP;simp? [show∀S,yH [] S=.ok _ S from λ_=>rfl,lst1];rfl) (zA (by unfold cQ;simp? [a (zI (zI h)),pR];rfl) (by unfold cR;simp? [jO];simp))))
theorem QL(B:Bo ts o bs rs)(S):zC 1 BD [.val ↑10] S=#[[kI ↑4],S,2]:=by
 have H:=B.n;have a:=zF S (.dic []);have b:=zF (S++[.dic []]) (.lst ((List.range ↑4).map zN));have F: ∀{Z:Sto}{l:Nat},Z[l]? =#[[],7]->lG Z #[l,1]=some (l,[]):=λh=>by unfold lG;dsimp only;rw[h];rfl
 have hw:zC 1 qB [#[↑2,1]] (S++[.dic []])=#[.non,S++[.dic []],1]:=by refine xX (T:=[]) rfl ?_ (IY _) (λl=>by simp);show zG (nY [some _] _)=_;unfold nY eM;simp? [show ZR [#[↑2,1]] (S++[.dic []])=.ok #[0,5] (S++[.dic []]) by unfold ZR;dsimp only;rw[F a];rfl];rw[aN];rfl
 have v:zV (zU 0) iA tO [none,#[↑2]] [] ((List.range ↑4).map zN) (S++[.dic []])=.ok ((List.range ↑4).map zN) (S++[.dic []]):=yW (yU _) λi _=>by refine Z0 _ rfl ?_ rfl;unfold iA;simp? [show DR true (.val (zN i)) #[↑2,1] (S++[.dic []])=#[.bl true,S++[.dic []],1] by unfold DR;rw[F a];rfl]
 refine(Rm B (S++[.dic []]++[.lst ((List.range ↑4).map zN)])).d λr T C L=>?_
 obtain⟨lt,Z,s,u,D,M⟩: ∃lt Z s,Z=S++[.dic []]++[.lst ((List.range ↑4).map zN)]++s/\mE [some ↑10,#[↑2],#[(S++[MO.dic []]).length],none,none,none] (S++[.dic []]++[.lst ((List.range ↑4).map zN)])=#[[some ↑10,#[↑2],#[(S++[MO.dic []]).length],#[lt],none,none],Z,0]/\Zi ↑4 Z #[lt,1]:=by
  rcases L with rfl|⟨l,ms,rfl,a,b,g3⟩
  .exact(Zj _ _ (T++[.lst []]) {(by rw[<-aA]),(by unfold mE;simp? [C]),.inr (Zo _ ([]) rfl (zF _ _) (by simp) (λd h=>(nomatch h)))})
  .exact(Zj l _ T {rfl,(by unfold mE;simp? [C]),.inr (Zo l ms rfl a b g3)})
 have P:Z[↑2]? =#[[],7]:=by rw[u];exact zI (zI a)
 have E:Z[(S++[MO.dic []]).length]? =#[(List.range ↑4).map zN,2]:=by rw[u];exact zI b
 generalize w:(S++[MO.dic []]).length=lu at D E b
 have J:Zi ↑4 (Z++[.dic []]) #[lt,1]:=by
  rcases M with h|⟨l,ms,e,a,b,g3⟩
  .cases h
  .exact .inr (Zo l ms e (zI a) b (λd h=>(g3 d h).app))
 have K:=Rk #[] J (.inl rfl);have I:=zF Z (.dic []);have O:keyOk (kI ↑4)=true:=GI λd hd=>by refine(mM.mp hd).a λi _ k=>?_;subst k;exact .inl {_,rfl}
 have c: ∀m,HA #[Z.length,1] (.val (kI ↑4)) (.bl true) m (Z++[.dic []])=.ok m (Z++[.dic [(kI ↑4,.bl true)]]):=λm=>by unfold HA;rw[show kO _ #[Z.length,1]=some (Z.length,[]) by unfold kO;dsimp only;rw[I];rfl];dsimp only;rw[iP {O,by simp},Ą _ _ (à _),sub_self];rfl
 have G:=zF Z (.dic [(kI ↑4,.bl true)]);have A:=zF Z (.fdc [(kI ↑4,.bl true)]);have Q:WH #[Z.length,1] (Z++[.dic [(kI ↑4,.bl true)]])=.ok {[kI ↑4],[]} (Z++[.fdc [(kI ↑4,.bl true)]]):=by unfold WH;rw[show kO _ #[Z.length,1]=some (Z.length,[(kI ↑4,.bl true)]) by unfold kO;dsimp only;rw[G];rfl];dsimp only;rw[Ą _ _ (à _),sub_self];rfl
 have N:WH #[Z.length,1] (Z++[.fdc [(kI ↑4,.bl true)]])=.ok {[kI ↑4],[]} (Z++[.fdc [(kI ↑4,.bl true)]]):=by unfold WH;rw[show kO _ #[Z.length,1]=none by unfold kO;dsimp only;rw[A],show Gj _ #[Z.length,1]=some [(kI ↑4,.bl true)] by unfold Gj;dsimp only;rw[A]];rfl
 have q:zV (zU 0) tQ iB [none,some (kI ↑4)] [] [kI ↑4] (Z++[.fdc [(kI ↑4,.bl true)]])=.ok [.bl false] _:=aZ rfl rfl (by unfold iB;simp? [zAV];rfl) (yU _) rfl;have y:zV (zU 0) iC tR [none,#[Z.length]] [] [kI ↑4] (Z++[.fdc [(kI ↑4,.bl true)]])=.ok [kI ↑4] _:=aZ rfl (by unfold iC;simp? [N];erw [q];rfl) rfl (yU _) rfl;have j: ∀Y:Sto,Y[lu]? =#[(List.range ↑4).map zN,2]->kL #[lu,1] (.new []) Y=#[(List.range ↑4).map zN,Y,2]:=λY h=>(VM (VR h) rfl (fits (by simp;lia))).trans (by rw[aN]);refine gG (T:=[.dic []]++[.lst ((List.range ↑4).map zN)]++s++[.fdc [(kI ↑4,.bl true)]]) rfl ?_ (xO λd hd=>by rw[mS.mp hd];exact iZ (GL _ _));rw[<-aA, <-aA, <-aA, <-u];show zG (HN [some _,none,none,none,none,none] S)=_;unfold HN
 exact zW (zA (by unfold FN;simp? [zAU B];rfl) (zA (by unfold FO;simp? [hw];rfl) (zA (by
  unfold FP;simp? [Rq H,Ro B,pQ,lM,ú,show ↑4<1000000 by lia];erw [v];rw[<-w]
  rfl) (zA D (zA (by unfold FQ;simp? [KW];rfl) (zA (by
   unfold FR;simp? [Zm (zI P),pR];exact(yC rfl (by unfold FM tP;simp? [MU,show∀S,OH [#[[],6]] S=#[[],S,2] from λ_=>rfl,j _ (zI E),Ec _ (show ↑4<64 by lia),K,c];rfl) (yU _)).trans rfl) (by
   unfold FS;simp? [Q];erw [y];simp? [show [kI ↑4].length<1000000 from by simp,Zl])))))))
end
section
theorem Zn(I:↑4<=30)(q:S[lt]? =#[[kI ↑4],2]):zC 2 FY [.val ↑10,#[lt,1]] S=#[(rs.map λ_=>.int 1),S,2]:=by
 have F:zV (zU 0) mL mN [none] [] #[rs,9] S=.ok _ S:=yW (yU _) λr _=>(Z0 _ rfl rfl rfl)
 have K:↑2≠lt:=λz=>by have:=(gS.mp q).1;lia
 obtain⟨H,J,v,⟨x,b⟩,a,m,A,hd⟩:=VL (gf:=zU 5) (body:=iH) (gs:=[]) (L:=(List.range ↑4).map zN) (λk w Z=>(∃x,w=[some ↑10,#[lt],#[↑2],some (zN 0),some (kI ↑4),x])/\ ∃a,Z=S++[.lst a]/\a.length=↑4/\ ∀j (h:j<↑4),a[j]? =#[if j<k then 1 else 0,0]) (λi d hi w Z ⟨⟨x,b⟩,a,m,A,hd⟩=>by
  subst b m;obtain⟨s,rfl⟩:i<rs.length/\zN i=d:=by rw[ë]at hi;refine(ć.mp hi).a λj u e=>?_;obtain⟨D,B⟩:=gS.mp u;rw[ú]at D;rw[List.getElem_range]at B;exact{D,by rw[B];exact e}
  have C:=zF S (.lst a);refine{[some ↑10,#[lt],#[↑2],some (zN 0),some (kI ↑4),some (zN i)],S++[.lst (a.set i (.int 1))],?_,yU _,{_,rfl},a.set i (.int 1),rfl,by rw[Ć,A],λj u=>?_}
  .rw[show zU 5 (zN i) _ (S++[.lst a])=.ok [some ↑10,#[lt],#[↑2],some (zN 0),some (kI ↑4),some (zN i)] _ from rfl,jO];have y:=hd i s;rw[iN (Į _)]at y;unfold iH mP zGA;simp? [C];rw[iP #[],ą,y];simp? [show∀S,Nr #[1,5] (.val (zN 0)) S=.ok #[1,5] S from λ_=>rfl,show∀S,Kf #[0,5] #[1,5] S=.ok #[1,5] S from λ_=>rfl,Ak C (show QR a.length (i:Int)=some i from by unfold QR;rw[iP #[],iP #[],ą])];rw[Ą _ _ (à _),sub_self];rfl
  .by_cases e:i=j
   .subst e;rw[Ĥ #[],iP #[]]
   .rw[ħ e,hd j u];congr 2;by_cases c:j<i
    .rw[iP c,iP #[]]
    .rw[iN c,iN #[]]) (S:=S++[.lst (rs.map λ_=>.int 0)]) {{_,rfl},_,rfl,lM _,λj h=>by rw[ë,gE h];rfl}
 subst b m
 have G:a=rs.map λ_=>.int 1:=ŉ λj=>by
  by_cases h:j<↑4
  .rw[hd j h,lM,ú,iP h,ë,gE h];rfl
  .rw[Ĕ #[],Ĕ (by rw[lM];lia)]
 rw[G]at v;refine xL rfl rfl ?_ (.inr (Z0 _ rfl (à _) (zF _ _))) (xO λd hd=>by refine(mM.mp hd).a λr _ L=>?_;subst L;exact vZ _ _);show zG (uC [some _,some _,none,none,none,none] S)=_;have E:VT [#[lt,1]] (S++[.lst (rs.map λ_=>.int 0)])=.ok {[.tup [zN 0,kI ↑4]],[(lt,[kI ↑4])]} (S++[.lst (rs.map λ_=>.int 0)]):=by unfold VT srcOf;dsimp only;rw[zI q];rfl
 unfold uC
 exact zW (zA (by
  unfold uA;simp? [IG,pQ,lM,show ↑4<1000000 by lia];erw [F];rfl) (zA (by
  unfold uB;simp? [E];exact(yC rfl (by unfold tZ mQ;simp? [pQ];exact v) (yG (zI q))).trans rfl) (by rfl)))
noncomputable abbrev qM(hd:Ch)(as:List Rw):MV:=.tup [.tup #[hd,8],.tup #[as,9]]
theorem XX(Q:QC rs as hd vs ys)(ne:as≠[])(s:↑4<=30)(q:S[lt]? =#[[kI ↑4],2]): ∃(l:Nat)(T:Sto)(j:zA0),jE [vH ts o bs rs,.loc lt,qM hd as] S=.ok #[l,1] (S++T)/\↑2<=l/\(S++T)[l]? =#[kd j,7]/\j.Nodup/\ ∀k,k∈j↔Hj rs as hd k:=by refine(zFE {Q,.inl rfl,zF S _} ne).i λl T j u v a b c=>?_;rw[lA]at v;have m:zC 3 yZ [.val _,.new _,.val _] S=.ok _ _:=nH rfl u #[] a;refine Y4 l ([.lst _]++T) j ?_ (by lia) (by rw[<-aA];exact a) b c;show zG (uE [some _,some _,some _] S)=_;unfold uE uD;simp? [IG,Zn s q,m];rw[aA];rfl
theorem zAW(B:Bo ts o bs rs)(Q:QC rs as hd vs ys)(ne:as≠[])(E:F.Nodup)(j: ∀k,k∈F↔Hj rs as hd k)(S):zC 2 Du [.val ↑10,.val (qM hd as)] S=#[(oN F).map MV.tup,S,2]:=by
 have u:=zF S (.lst [kI ↑4]);refine(XX (ts:=ts) (o:=o) (bs:=bs) Q ne B.n u).i λl T a L v y q s=>?_;have C:zC 3 jE [.val _,.val _,.val (qM hd as)] _=.ok _ _:=nH rfl L v y;have c: ∀k∈a,k.length=hd.length/\ ∀d∈k,d∈vs:=λk I=>uX Q ((s k).mp I);have K:=ŋ (XS q c) Q.ph;have G:WG #[l,1] (S++[MO.lst [kI ↑4]]++T)=.ok {a.map λk=>.tup [.tup k,.int 1],[]} ((S++[MO.lst [kI ↑4]]++T).set l (.fdc (kd a))):=by unfold WG;rw[GK y];dsimp only;unfold kd;rw[Ă];rfl
 have D:zV (aM 2 (zB (zU 0) (zB (zU 1) zZ))) uF FZ [none,none,#[1,0]] [] (a.map λk=>.tup [.tup k,.int 1]) ((S++[MO.lst [kI ↑4]]++T).set l (.fdc (kd a)))=.ok _ _:=yW (yU _) λk _=>(Z0 _ rfl (by unfold uF;simp? [];rfl) rfl)
 have A:=XR (λt b d hd=>Q.vv d ((c t b).2 d hd)) (λt b=>(c t b).1) (by have:=Q.hl;lia) q K ((S++[MO.lst [kI ↑4]]++T).set l (.fdc (kd a)));have J:oN a=oN F:=DM (λt b d hd=>Q.vv d ((uX Q ((j t).mp b)).2 d hd)) ((jX a).trans ((List.perm_ext_iff_of_nodup q E).mpr λk=>by rw[s,j])) (IC a);obtain⟨H,m⟩:=XH (S:=S) (w:=l) (by rw[lA]at v;lia) (.fdc (kd a));refine gG (T:=H) rfl ?_ ((Hk Q j).2 _);show zG (WN [some _,some _,none,none] S)=_;unfold WN;refine zW (zA (by unfold PM;simp? [QL B];rfl) (zA (by unfold PN;simp? [wF u,show∀S,Nr #[1,5] #[(([kI ↑4].length:Nat):Int),5] S=.ok #[2,5] S from λ_=>rfl,show∀S,Cp #[2,5] #[1,5] S=.ok #[1,5] S from λ_=>rfl];rfl) ?_));unfold PQ;simp? [C,G,lM,show a.length<1000000 by lia];erw [D];simp? [A];rw[J,aA,m]
end
section
def C7(f:List Nat->MV)(hd:Ch)(t:MV):MV:=match vn t with
 |some x=>if x∈hd then .tup [.str IS,f x]else t
 |none=>t
abbrev Rr(f:List Nat->MV)(hd:Ch)(b:Rw):Rw:=(b.1,b.2.map (C7 f hd))
def XY(x):C7 f hd (.tup [.str UB,.str x])=if x∈hd then .tup [.str IS,f x]else .tup [.str UB,.str x]:=by unfold C7;rw[JZ]
def Hm(v):C7 f hd (.tup [.str IS,v])=.tup [.str IS,v]:=by unfold C7;rw[QE]
def Bh(a: ∀x∈hd,VS (f x))(h:gQ t):gQ (C7 f hd t):=by
 rcases h with⟨x,rfl⟩|⟨v,hv,rfl⟩
 .rw[XY];split
  .exact .inr (Z3 (f x) (a x ‹_›) rfl)
  .exact .inl ⟨x,rfl⟩
 .rw[Hm];exact .inr (Z3 v hv rfl)
def Zp(o: ∀x∈hd,VS (f x)):GH (jW hd (hd.map f)):=λp c=>by obtain⟨j,m⟩:=of_mem_zip c;refine(mM.mp j).a λx _ e=>?_;refine(mM.mp m).a λy b a=>?_;exact{⟨x,e.symm⟩,a▸o y b}
def Rt(S):vK (.val (.str UB)) (.val (.str [118,97,114])) S=#[.bl true,S,1]:=OL (GX _ _ _)
def zAX(h:S[l]? =#[jW hd (hd.map f),7])(o: ∀x∈hd,VS (f x))(m:gQ t):zC 2 BF [.val t,#[l,1]] S=#[C7 f hd t,S,1]:=by
 refine yT rfl ?_ (gA (QD (Bh o m)).1) (λl=>by rcases Bh o m with⟨x,e⟩|⟨v,_,e⟩<;>(rw[e];simp));show zG (BE [some t,some _] S)=_;have q: ∀(a b:MV) S,yE #[[a,b],6] #[0,5] S=.ok _ S:=λ_ _ S=>ix_tup rfl;have s: ∀(a b:MV) S,yE #[[a,b],6] #[1,5] S=.ok _ S:=λ_ _ S=>ix_tup rfl;have u:=Zp o;rcases m with⟨x,rfl⟩|⟨v,hv,rfl⟩
 .have j:=BW f hd x;have hi:=zAC h u x;rw[XY];by_cases c:x∈hd
  .rw[iP c]at j ⊢;rw[j]at hi
   replace hi:_=R.ok (Er.val (.bl true)) S:=hi
   exact zW (jP (by unfold gM;simp? [q,s,Rt,hi,Qt h u j,tup2]))
  .rw[iN c]at j ⊢;rw[j]at hi
   replace hi:_=R.ok _ S:=hi
   exact zW (zA (by unfold gM;simp? [q,s,Rt,hi];rfl) (by rfl))
 .rw[Hm];exact zW (zA (by unfold gM;simp? [];rfl) (by rfl))
theorem zAY(h:S[l]? =#[jW hd (hd.map f),7])(j: ∀x∈hd,VS (f x))(c: ∀t∈b.2,gQ t)(s:b.2.length<=4):zC 2 BK [.val (zY b),#[l,1]] S=#[zY (Rr f hd b),S,1]:=by
 have o:=by
  have:=yW (f:=id) (g:=C7 f hd) (gf:=zU 0) (cf:=eQ) (ef:=gV) (ρb:=[none,some _]) (yU S) (ds:=b.2) λt a=>(Z0 ([some t,#[l]]) rfl rfl (by unfold gV;simp? [zAX h j (c t a)]))
  rwa [List.map_id]at this
 have q:pd (zY (Rr f hd b))=true:=by unfold zY;rw[wV,xC,xC,wV,iM λt a=>by refine(mM.mp a).a λu m k=>?_;subst k;exact(QD (Bh j (c u m))).1];rfl
 refine yT rfl ?_ (gA q) (λl=>by simp[zY]);show zG (pH [some _,some _] S)=_;unfold pH qH;simp? [XT,zAM,pQ,show b.2.length<1000000 by lia];erw [o];rfl
theorem Zq(v:hd.Nodup)(q: ∀x∈hd,VS (f x))(m: ∀b∈as,(∀t∈b.2,gQ t)/\b.2.length<=4)(F:as.length<=10)(S):zC 2 GA [.val (qM hd as),#[hd.map f,6]] S=#[qM [] (as.map (Rr f hd)),S,1]:=by
 have j:=B4 (Z:=S) (k:=hd.map f) (.inl rfl) v;have w:=zF S (.dic (jW hd (hd.map f)));have s:zV (zU 0) mR cV [none,#[↑2]] [] #[as,9] (S++[.dic (jW hd (hd.map f))])=.ok ((as.map (Rr f hd)).map zY) (S++[.dic (jW hd (hd.map f))]):=by rw[Ă];exact yW (yU _) λb c=>(Z0 ([some (zY b),some _]) rfl rfl (by unfold cV;simp? [zAY w q (m b c).1 (m b c).2];rfl))
 have D:pd (qM [] (as.map (Rr f hd)))=true:=by rw[wV,xC,xC,wV,wV,MW,List.map_nil,MW];rw[iM λt o=>by refine(mM.mp o).a λE C G=>?_;subst G;refine(mM.mp C).a λb c I=>?_;subst I;unfold zY;rw[wV,xC,Qf,xC,wV,iM λt o=>by refine(mM.mp o).a λu y J=>?_;subst J;exact(QD (Bh q ((m b c).1 u y))).1,MW];rfl];rfl
 refine xX (T:=[.dic (jW hd (hd.map f))]) rfl ?_ (gA D) (λl=>by simp);show zG (uI [some _,some _,none] S)=_;have A: ∀(a b:MV) S,yE #[[a,b],6] #[0,5] S=#[a,S,1]:=λ_ _ S=>ix_tup rfl;have B: ∀(a b:MV) S,yE #[[a,b],6] #[1,5] S=#[b,S,1]:=λ_ _ S=>ix_tup rfl;unfold uI;refine zW (zA (by unfold uG;simp? [A,j];rfl) ?_);unfold uH;simp? [show∀S,yH [] S=.ok _ S from λ_=>rfl,B,pQ,lM,show as.length<1000000 by lia];erw [s];simp? [rX,tup2];rfl
def C8(c: ∀t∈b.2,gQ t):Mt rs (Rr f hd b) σ↔Mt rs b λx=>if x∈hd then f x else σ x:=by
 unfold Mt
 rw[show(b.2.map _).map _=b.2.map (Lc λx=>if x∈hd then f x else σ x) by
  rw[Ă];refine ĳ λt a=>?_;show Lc σ _=_;rcases c t a with⟨x,rfl⟩|⟨v,_,rfl⟩
  .rw[XY,HZ];split
   .rw[QJ]
   .rw[HZ]
  .rw[Hm,QJ,QJ]]
def zAZ(j: ∀b∈as,(∀t∈b.2,gQ t)/\b.2.length<=4):Hj rs (as.map (Rr f hd)) [] k↔k=[]/\Hj rs as hd (hd.map f):=by
 constructor
 .rintro⟨σ,c,rfl⟩;exact{rfl,_,λb a=>(C8 (j b a).1).mp (c _ (ľ a)),ĳ λx q=>by rw[iP q]}
 .rintro⟨rfl,σ,c,m⟩;refine{σ,λs o=>?_,rfl};refine(mM.mp o).a λb a u=>?_;subst u;rw[C8 (j b a).1]
  have e:(λx=>if x∈hd then f x else σ x)=σ:=funext λx=>by
   split
   .exact List.map_inj_left.mp m x ‹_›
   .rfl
  rw[e];exact c b a
def zFN(Q:QC rs as hd vs ys)(B: ∀x∈hd,VS (f x)):QC rs (as.map (Rr f hd)) [] vs ys:=by
 have s: ∀x,x∈eA (as.map (Rr f hd))->x∈eA as:=λx m=>by
  obtain⟨o,c,t,q,e⟩:=jY.mp m;obtain⟨b,a,rfl⟩:=mM.mp c;obtain⟨u,j,rfl⟩:=mM.mp q;refine jY.mpr {b,a,u,j,?_};rcases (Q.ha b a).1 u j with⟨y,rfl⟩|⟨v,_,rfl⟩
  .rw[XY]at e;split at e
   .rw[QE]at e;cases e
   .exact e
  .rwa [Hm]at e
 refine{Q.hv,Q.vv,Q.v1,Q.rl,λo c=>?_,λo c r w e=>?_,by rw[lM];exact Q.al,λx h=>(nomatch h),by simp,λx m=>Q.hy x (s x m),Q.yl,Q.pw,by simp}
 .refine(mM.mp c).a λb a k=>?_;subst k;exact{λt A=>by refine(mM.mp A).a λu j C=>?_;subst C;exact Bh B ((Q.ha b a).1 u j),by rw[lM];exact(Q.ha b a).2}
 .refine(mM.mp c).a λb a D=>?_;subst D;rw[lM];exact Q.hw b a r w e
end
section
variable{ts:Tk}{o:Db}{bs:L1}{f:List Nat->MV}{hd:Ch}{rs as:List Rw}{vs:Q0}{ys:Ch}{y:Bool}
structure As(ts:Tk)(o:Db)(bs:L1)(rs as:List Rw)(hd:Ch)(vs:Q0)(ys:Ch)(f:List Nat->MV)(y:Bool):Prop where
 B:Bo ts o bs rs
 Q:QC rs as hd vs ys
 ne:as≠[]
 nd:hd.Nodup
 hf: ∀x∈hd,VS (f x)
 hy:y=true↔Hj rs as hd (hd.map f)
abbrev zFO(y:Bool)(n:Nat):List MV:=if y=true then [kI n]else []
theorem zBA(A:As ts o bs rs as hd vs ys f y)(S): ∃T:Sto, ∃a,zC 3 xB [.val ↑10,.val (qM hd as),#[hd.map f,6]] S=.ok #[[.loc a,.loc (a+1)],6] (S++T)/\(S++T)[a]? =#[zFO (!y) ↑4,2]/\(S++T)[a+1]? =#[zFO y ↑4,2]:=by
 have E:=zF S (.lst [kI ↑4]);have m:as.map (Rr f hd)≠[]:=λz=>A.ne (List.map_eq_nil_iff.mp z);refine(XX (ts:=ts) (o:=o) (bs:=bs) (zFN A.Q A.hf) m A.B.n E).i λl T N O L q P G=>?_;have F:zC 3 jE [.val ↑10,#[↑2,1],.val (qM [] (as.map (Rr f hd)))] (S++[MO.lst [kI ↑4]])=.ok _ _:=nH rfl O L q;have K:=Zq A.nd A.hf A.Q.ha A.Q.al (S++[MO.lst [kI ↑4]]);have w:[]∈N↔y=true:=by rw[G,zAZ A.Q.ha,A.hy];exact{λh=>h.2,λh=>⟨rfl,h⟩}
 have v:vD #[l,1] [#[[],6],#[0,5]] (S++[MO.lst [kI ↑4]]++T)=.ok #[if y=true then 1 else 0,5] (S++[MO.lst [kI ↑4]]++T):=by
  unfold vD;dsimp only;rw[GK q];dsimp only;rw[iP (GI λd h=>by cases h),XO];by_cases c:y=true
  .rw[iP (w.mpr c),iP c]
  .rw[iN λz=>c (w.mp z),iN c]
 have b:oV #[l,1] (S++[MO.lst [kI ↑4]]++T)=true:=by unfold oV;rw[GK q];rfl
 generalize C:S++[MO.lst [kI rs.length]]++T=Z at v b F;have j:Z[↑2]? =#[[kI ↑4],2]:=by rw[<-C];exact zI E
 have I:↑2<Z.length:=(gS.mp j).1;have J: ∀S,yH [.new [],.new []] S=.ok #[[.loc ↑2,.loc (↑2+1)],6] (S++[.lst [],.lst []]):=λS=>(FA (by simp)).trans (by show R.ok (Er.val (.tup [.loc ↑2,.loc (S++[MO.lst []]).length])) (S++[MO.lst []]++[MO.lst []])=_;rw[aA,lA];rfl);have D:(Z++[.lst [],.lst []])[Z.length]? =#[[],2]:=wW _ _ _;have u:(Z++[.lst [],.lst []])[Z.length+1]? =#[[],2]:=(GF rfl).trans rfl;have H:VT [#[↑2,1]] (Z++[.lst [],.lst []])=.ok {[.tup [zN 0,kI ↑4]],[(↑2,[kI ↑4])]} (Z++[.lst [],.lst []]):=by unfold VT srcOf;dsimp only;rw[zI j];rfl
 obtain⟨U,s⟩: ∃U,Z++[MO.lst (zFO (!y) rs.length),.lst (zFO y rs.length)]=S++U:={_,by rw[<-C,aA,aA]}
 refine Z2 U Z.length ?_ (by rw[<-s];exact wW _ _ _) (by rw[<-s];exact(GF rfl).trans rfl)
 have h:zG (xA [some ↑10,some (qM hd as),#[hd.map f,3],none,none,none,none,none] S)=.ok #[[.loc Z.length,.loc (Z.length+1)],6] (S++U):=by
  rw[<-s];unfold xA
  cases y<;>exact zW (zA (by unfold jG;simp? [QL A.B]<;>rfl) (zA (by unfold jH;simp? [K,F,b,show∀S,yH [] S=.ok #[[],6] S from λ_=>rfl,v]<;>rfl) (zA (by unfold jI;simp? [RH,J]<;>rfl) (zA (by
   unfold jK;simp? [H]
   exact(yC rfl (by
    unfold jF wI;simp? [show∀S,Xf #[if false=true then 1 else 0,5] (.val (zN 0)) S=.ok #[0,5] S from λ_=>rfl,show∀S,AG #[0,5] #[1,5] S=.ok #[0,5] S from λ_=>rfl,show∀S,Xf #[1,5] (.val (zN 0)) S=.ok #[1,5] S from λ_=>rfl,show∀S,AG #[1,5] #[1,5] S=.ok #[1,5] S from λ_=>rfl,Ap,Aq,xD D,wM D (by simp),xD u,wM u (by simp)]
    (first |rw[XC]|rw[Gr rfl])<;>rfl) (yG (zI j))).trans rfl) (by rfl)))))
 unfold zC;rw[iP (show [Er.val _,.val _,.val _].length=3 from rfl)];show((noX (zG (xA _ S))).bind λr M=>hX S r M)=_;erw [h,yN,jO];unfold hX;rw[iP rK];dsimp only;rw[iN];intro z;unfold lo vO lo at z
 lia
theorem Hn(h:S[a]? =#[zFO b n,2]):zC 1 uM [#[a,1]] S=#[if b=true then kI n else .non,S,1]:=by
 refine yT rfl ?_ (by split;exact iZ (GL _ _);exact IY _) (λl=>by split<;>simp);show zG (uL [some _] S)=_;unfold uL uK;cases b
 .simp? [HV h];rfl
 .simp? [HV h,IZ h (i:=0) rfl];rfl
theorem Ru(A:As ts o bs rs as hd vs ys f y)(S):zC 3 CZ [.val ↑10,.val (qM hd as),#[hd.map f,6]] S=#[if y=true then .non else kI ↑4,S,1]:=by refine(zBA A S).b λT a h b c=>?_;refine xX (T:=T) rfl ?_ (by split;exact IY _;exact iZ (GL _ _)) (λl=>by split<;>simp);show zG (CY [some _,some _,some _] S)=_;unfold CY BL;simp? [h,Ap,Hn b];cases y<;>rfl
theorem Ho(A:As ts o bs rs as hd vs ys f y)(S):zC 3 uP [.val ↑10,.val (qM hd as),#[hd.map f,6]] S=#[if y=true then kI ↑4 else .non,S,1]:=by refine(zBA A S).b λT a h c b=>?_;refine xX (T:=T) rfl ?_ (by split;exact iZ (GL _ _);exact IY _) (λl=>by split<;>simp);show zG (uO [some _,some _,some _] S)=_;unfold uO uN;simp? [h,Aq,Hn b];rfl
theorem Rv(A:As ts o bs rs as hd vs ys f y)(S):zC 3 WP [.val ↑10,.val (qM hd as),#[hd.map f,6]] S=.ok #[[.int (if y=true then 1 else 0),.int 1],6] S:=by refine(zBA A S).b λT a h b c=>?_;refine xX (T:=T) rfl ?_ (gA (by simp[pd,YI])) (λl=>by simp);show zG (Dv [some _,some _,some _,none] S)=_;refine zW (zA (by unfold PR;simp? [h];rfl) ?_);unfold PV;simp? [Ap,Aq,wF b,wF c];cases y<;>rfl
end
theorem C9(B:Se ts)(s: ∀d∈vs,VS d)(A:1<=↑9)(D:↑9<=4)(o:ys.length=3)(j: ∀a∈as,zES ts ys vs a)(H:as.length<=4)(C:hs.length<=2)(E: ∀y∈hs,y∈wA [] (eA as))(w: ∀r∈rs,Ky ts vs r)(G:↑4<=30):QC rs as hs vs ys:=by
 have u: ∀{n m:Nat},n<=m->↑9 ^ n<=4 ^ m:=λh=>ó (Nat.pow_le_pow_left D _) (Nat.pow_le_pow_right ↑15 h);refine{λr h=>(w r h).2.2,s,A,by lia,λb c=>{λd hd=>((j b c).2.1 d hd).ok s,?_},λb c r h e=>by rw[(j b c).1,(w r h).2.1,e],by lia,λx q=>by have:=E x q;rw[BR]at this;simpa using this,by lia,λx q=>?_,by lia,?_,?_}
 .rw[(j b c).1];unfold Kw
  cases z:ts[b.1.toNat]? with
  |none=>simp
  |some p=>have:=B.2.2 p (ò z);simp;lia
 .obtain⟨b,c,t,F,e⟩:=jY.mp q;rcases (j b c).2.1 t F with⟨y,o,rfl⟩|⟨v,_,rfl⟩
  .rw[JZ]at e;cases e;exact o
  .rw[QE]at e;cases e
 .rw[o];exact ó (u (à 3)) ↑15
 .exact ŋ (u C) ↑15
theorem Zr(J: ∀d∈vs,VS d){R:List Rw}(P: ∀r∈R,Ky ts vs r)(X:R.length<=30)(S):
  ∃rs:List Rw,(∀r∈rs,Ky ts vs r)/\↑4<=30/\(rs.Pairwise λa c=>rA ts a≠rA ts c)/\zC 2 nF [.new #[R,9],.val (TT ts)] S=#[rs.map zY,S,2]:=by
 obtain⟨B,s⟩: ∃B,B=S++[MO.lst #[R,9]]:={_,rfl}
 have I:B[↑2]? =#[R.map zY,2]:=by rw[s];exact zF _ _
 obtain⟨ρ',W,N,⟨x,y,z,m⟩,rs,C,o,K,u⟩:=VL (gf:=aM 2 (zB (zU 4) (zB (zU 5) zZ))) (body:=wK) (gs:=[(↑2,R.map zY)]) (L:=R.map zY) (λk G Z=>(∃x y z,G=[#[↑2],some (TT ts),#[B.length],#[B.length+1],x,y,z])/\ ∃rs:List Rw,Z=B++[.lst #[rs,9],.lst (rs.map (rA ts))]/\(∀r∈rs,Ky ts vs r)/\↑4<=k/\rs.Pairwise λa c=>rA ts a≠rA ts c) (λi d hi G Z ⟨⟨x,y,z,m⟩,rs,C,o,K,u⟩=>by
  subst m C;refine(mM.mp (ò hi)).a λr D V=>?_;subst V;have v:=(gS.mp hi).1;rw[lM]at v;have A:=P r D;have H: ∀{q},Ky ts vs q->_:=λ{q} h=>Rp (r:=q) (ts:=ts) λd hd=>J d (h.2.2 d hd);have w:(B++[MO.lst #[rs,9],.lst (rs.map (rA ts))])[B.length+1]? =#[rs.map (rA ts),2]:=(GF rfl).trans rfl;have F: ∀x,(B++[MO.lst #[rs,9],x])[B.length]? =#[rs.map zY,2]:=λx=>wW _ _ _;have hs: ∀T:Sto,stay [(↑2,R.map zY)] (B++T):=λT=>yG (zI I);have j:=pO true w (H A).1 λy Q=>by refine(mM.mp Q).a λq E Y=>?_;subst Y;exact H (o q E)
  rw[show aM 2 _ (zY r) _ _=.ok (_::_::_::_::#[r.1,0]::#[r.2,3]::_) _ from rfl,jO];have M: ∀Z,xI [#[↑2],some (TT ts),#[B.length],#[B.length+1],#[r.1,0],#[r.2,3],z] Z=#[[#[↑2],some (TT ts),#[B.length],#[B.length+1],#[r.1,0],#[r.2,3],some (rA ts r)],Z,0]:=λZ=>by unfold xI;simp? [zFL A.1,t_1,XB,tup2];rfl
  unfold wK;by_cases c:rA ts r∈rs.map (rA ts)
  .rw[dT0 c]at j;exact{_,_,zA (M _) (by unfold xK;simp? [j];rfl),hs _,{_,_,_,rfl},rs,rfl,o,by lia,u}
  .rw[dF0 c]at j;refine{_,_,zA (M _) (by unfold xK;simp? [j];refine(iP rfl).trans (zA (S':=B++[.lst #[rs,9],.lst (rs.map (rA ts)++[rA ts r])]) (by simp? [xD w,wM w (by rw[lM];lia)];rw[Gr (i:=1) rfl];rfl) ?_);simp? [xD (F _),tup2,wM (F _) (by rw[lM];lia)];rw[XC]),hs _,{_,_,_,rfl},rs++[r],by rw[ù,ù];rfl,λq E=>(ì.mp E).elim (o q) λz=>by rw[mS.mp z];exact A,by rw[lA,lS];lia,List.pairwise_append.mpr {u,List.pairwise_singleton _ _,λa U b O e=>c (by rw[mS.mp O]at e;exact e▸ľ U)}}) (S:=B++[.lst [],.lst []]) {(Zj _ _ _ rfl),[],rfl,λr h=>(nomatch h),zero_le _,.nil}
 subst m C;rw[lM]at K;refine{rs,o,(by lia),u,xL (T:=[.lst #[R,9]]++[.lst #[rs,9],.lst (rs.map (rA ts))]) rfl (show zK [.new #[R,9],.val (TT ts)] S=([.loc ↑2,TT ts],B) by rw[s];rfl) ?_ (.inr {B.length,rfl,by rw[s];simp,by rw[<-aA, <-s];exact wW _ _ _}) (xO λd hd=>by refine(mM.mp hd).a λr D ac=>?_;subst ac;exact gA (XI J (o r D)).1)};show zG (jV [#[↑2],some (TT ts),none,none,none,none,none] B)=_;rw[<-aA, <-s];unfold jV;exact zW (zA (by unfold bO;simp? [RH];rfl) (zA (ρ':=[#[↑2],some (TT ts),#[B.length],#[B.length+1],none,none,none]) (S':=B++[.lst [],.lst []]) (by unfold bP;simp? [RH];simp) (zA (by unfold bQ;simp? [yV (zI I)];exact N) (by rfl))))
theorem zBB(s: ∀d∈vs,VS d)(E:↑9<=4)(B:S[p]? =#[vs,2]): ∃o,.str o∉vs/\zC 1 oC [#[p,1]] S=#[.str o,S,1]:=by
 obtain⟨W,b⟩: ∃W:List (List Nat),W=[[110,111,98,111,100,121],[110,111,119,104,101,114,101],[110,101,118,101,114],[110,111,111,110,101],[110,111,117,103,104,116]]:={_,rfl}
 have j: ∀w:List Nat,QS true _ _ S=.ok _ S:=λw=>pO true B (BQ w) λy u=>oK (s y u)
 have lp: ∀(W:Ch)(x:R0),(∃w∈W,.str w∉vs)-> ∃o,.str o∉vs/\wO (zU 1) xY [] #[W,8] [#[p],x] S=.ok (.ret (.val (.str o))) S:=λW=>by
  induction W with
  |nil=>exact λx ⟨w,h,_⟩=>(nomatch h)
  |cons w W ih=>
   intro x ⟨v,C,q⟩;have hw:=j w;by_cases c:.str w∈vs
   .obtain⟨o,m,a⟩:=ih _ {v,(mC.mp C).resolve_left λz=>q (z▸c),q};rw[dT0 c]at hw;exact{o,m,(yC rfl (by unfold xY wL;simp? [hw];rfl) (yU _)).trans a}
   .rw[dF0 c]at hw;exact{w,c,ML rfl (by unfold xY wL;simp? [hw];rfl)}
 refine(lp W none (Classical.byContradiction λz=>by
  have D: ∀w∈W,.str w∈vs:=λw h=>Classical.byContradiction λy=>z ⟨w,h,y⟩;have A:(W.map MV.str).Nodup:=by rw[b];exact pairwise_map.mpr ((show List.Nodup _ by decide).imp λh e=>h (MV.str.inj e))
  have:=A.length_le_of_subset λd hd=>by obtain⟨w,hw,rfl⟩:=mM.mp hd;exact D w hw
  rw[b]at this;simp at this
  lia)).a λo m a=>?_
 refine{o,m,yT rfl ?_ (OJ _ _) (λl=>by simp)};show zG _=_;unfold oB;refine zW (jP ?_);unfold nG;rw[b]at a;simp? [show xN [.val _,.val _,.val _,.val _,.val _] S=#[_,S,2] from AA (by simp),pR];exact a
theorem Zs(a: ∀d∈ds,pd d=true/\EM d<zO)(h:S[l]? =#[ds,2]):MG (.new ds) #[l,1] S=#[.bl false,S,1]:=by
 obtain⟨bs,c,b⟩:=QB λd hd f j=>oH zO (a d hd).1 (a f j).1 (a d hd).2;rw[dT0 rfl,aE]at b;have e:RA S #[l,1]=some (.ls ds):=by show(xQ S _).map Vw.ls=_;rw[lB h];rfl
 have:EW S zO (.new ds) #[l,1]=some true:=by unfold EW;rw[e];show(if ↑11=↑11 then(LS _ ds ds).map λbs=>bs.all id else some false)=_;rw[iP rfl,c];show some (bs.all id)=_;rw[b.1]
 unfold MG;rw[this];rfl
def XZ(n):pd (kI n)=true/\EM (kI n)<40:=BU λd hd=>by refine(mM.mp hd).a λi _ a=>?_;subst a;exact .inl {_,rfl}
theorem Hq{n:Nat}(a:n<=30)(S):HD [#[n,5]] S=#[kI n,S,1]:=by unfold HD;dsimp only;rw[iP #[]];rw[Ă];rfl
section
def Hr(i):pd (.tup [.int i,.int 1])=true/\EM (.tup [.int i,.int 1])<40:=by simp[pd,YI,EM,LV]
def Zt(A:As ts o bs rs as hd vs ys f true)(S):zC 3 uW [.val ↑10,.val (qM hd as),#[hd.map f,6]] S=#[.bl true,S,1]:=oO rfl (by show zG (uV [some _,some _,some _,none] S)=_;have b:=Rv A S;have c:=Ru A S;have a:=Ho A S;refine zW (zA (by unfold oE;simp? [IG,DE,lM,Hq A.B.n];rfl) (zA (by unfold oF;simp? [b,c,tup2,DI (Hr 1) (Hr 1).1,show∀S,DY (.val .non) (.val .non) S=.ok _ S from λ_=>rfl];rfl) ?_));unfold oG;simp? [a,XA (XZ _) (XZ _).1];rfl)
abbrev LW(q:MV)(ts:Tk)(hd:Ch)(as:List Rw)(o:Db)(k x y:R0):Rho:=[some q,some (TT ts),#[0],#[1],#[2],#[3],some (qM hd as),#[4],#[5],#[o,4],#[[LN o false,LN o true],3],some (.tup (hd.map λ_=>.str o)),k,x,y]
def Rx(B:Bo ts o bs rs)(Q:QC rs as hd vs ys)(ne:as≠[])(O:hd.Nodup)(P:F.Nodup)(m: ∀k,k∈F↔Hj rs as hd k)(ho:.str o∉vs)(q)(M:S[4]? =#[rs.map zY,2])(J:S[5]? =#[(oN F).map MV.tup,2])(x y):
  ∃Y u,HU (LW q ts hd as o #[bs.map (LN o),3] x y) S=#[LW q ts hd as o #[bs.map (LN o),3] Y u,S,0]:=by
 have a:=Zs (λd hd=>by refine(mM.mp hd).a λt a V=>?_;subst V;exact BU ((Hk Q m).1 t a)) J
 have lp: ∀(L:zA0)(y:R0),(∀k∈L,k∈F)-> ∃u,wO (zU 14) MT [] (L.map MV.tup) (LW q ts hd as o #[bs.map (LN o),3] (some ↑10) y) S=#[LW q ts hd as o #[bs.map (LN o),3] (some ↑10) u,S,0]:=λL=>by
  induction L with
  |nil=>exact λy _=>⟨y,rfl⟩
  |cons k L ih=>
   intro y h;obtain⟨u,E⟩:=ih #[k,3] λj hj=>h j (.tail _ hj);have s:=(m k).mp (h k (.head _));refine((m k).mp (h k (.head _))).a λσ _ e=>?_;have c:=Zt {B,Q,ne,O,λx G=>Q.vv _ ((uX Q s).2 _ (by rw[e];exact ľ G)),{λ_=>e▸s,λ_=>rfl}} S;rw[<-e]at c;exact{u,(yC rfl (by unfold MT JV;simp? [c];rfl) (yU _)).trans E}
 obtain⟨u,E⟩:=lp ((oN F).take 5) y λk s=>(jX F).mem_iff.mp (List.mem_of_mem_take s);have W:=BU (t:=hd.map λ_=>.str o) λd hd=>by refine(mM.mp hd).a λ_ _ ac=>?_;subst ac;exact .inr ⟨o,rfl⟩
 have b:=DI (S:=S) W (show pd (.tup [])=true from rfl);have v: ∀S,yH [] S=.ok #[[],6] S:=λ_=>rfl;refine{some ↑10,u,?_};unfold HU;refine zA (by unfold JW;simp? [UA M,Wb];rfl) (zA (by unfold JX;simp? [zAW B Q ne P m S,(show zC 2 WO [.val ↑10,.val (qM hd as)] S=#[(oN F).map MV.tup,S,2] by
   have gt:=zF S (.lst [kI ↑4]);refine(XX (ts:=ts) (o:=o) (bs:=bs) Q ne B.n gt).i λl T H C w N I K=>?_;rw[lA]at w;have e2:zC 3 jE [.val _,.new [kI ↑4],.val _] S=.ok _ _:=nH rfl C #[] N;have D:=λk s=>uX Q ((K k).mp s);have hl:=ŋ (XS I D) Q.ph;have X:sO [#[l,1]] (S++[MO.lst [kI ↑4]]++T)=#[H.map MV.tup,S++[MO.lst [kI ↑4]]++T,2]:=by unfold sO;dsimp only;rw[GK N];dsimp only;rw[Hb]
   have e4:=XR (λt a d hd=>Q.vv d ((D t a).2 d hd)) (λt a=>(D t a).1) (by have:=Q.hl;lia) I hl (S++[MO.lst [kI ↑4]]++T);have Z:=DM (λt a d hd=>Q.vv d ((uX Q ((m t).mp a)).2 d hd)) ((jX H).trans ((List.perm_ext_iff_of_nodup I P).mpr λk=>by rw[K,m])) (IC H);refine gG (T:=[.lst [kI ↑4]]++T) rfl ?_ ((Hk Q m).2 _);show zG (MS [some _,some _] S)=_;unfold MS JU;simp? [QL B,e2,X,e4];rw[Z,aA];rfl),a];rfl) (zA (by unfold JY;simp? [show DP #[5,1] none (some 5) S=#[((oN F).take 5).map MV.tup,S,2] by rw[Yk J];exact congrArg (λx=>R.ok (Er.new x) S) ((Kt _ 5).trans map_take.symm),pR];exact E) ?_));by_cases c:hd=[]
 .rw[dT0 (by rw[c];rfl)]at b;exact zA (by unfold DA;simp? [v,b];rfl) (zA (by unfold DB;simp? [v,b];rfl) (by unfold DC;simp? [v,b];rfl))
 .rw[dF0 λz=>c (List.map_eq_nil_iff.mp (MV.tup.inj z))]at b;have A:As ts o bs rs as hd vs ys (λ_=>.str o) false:={B,Q,ne,O,λx _=>.inr ⟨o,rfl⟩,{λh=>(nomatch h),λh=>by obtain⟨x,G⟩:=List.exists_mem_of_ne_nil hd c;exact absurd ((uX Q h).2 _ (ľ G)) ho}}
  have C:=Rv A S;have w:=Ru A S;have U:=Ho A S;rw[iN xF0]at C w U;exact zA (by unfold DA;simp? [v,b,C,tup2,DI (Hr 0) (Hr 0).1];rfl) (zA (by unfold DB;simp? [v,b,U,show∀S,DY (.val .non) (.val .non) S=#[.bl false,S,1] from λ_=>rfl];rfl) (by unfold DC;simp? [v,b,w,wF M,lM,Hq B.n,DI (XZ _) (XZ _).1];rfl))
end
theorem Ry(j:Za)(a3:j.length<=63): ∃S,Aj [.scr (j.map MV.int)] []=#[.bl true,S,1]:=by
 obtain⟨c0,ao⟩:=DH j 0 ↑15 [];obtain⟨t0,ar⟩:=nN c0 [];refine(Kv t0 []).a λts I T=>?_;obtain⟨c1,aw⟩:=DH j 1 ↑15 [];obtain⟨t1,ay⟩:=nN c1 [];refine(Ym t1 []).elim λvs k=>k.g λD W L A=>?_;obtain⟨c2,aq⟩:=DH j 2 ↑15 [.lst vs];obtain⟨t2,af⟩:=nN c2 [.lst vs];refine(Qo t2 [.lst vs]).a λys ac w=>?_;obtain ⟨y0,y1,y2,rfl,_⟩:=ac;generalize X:([.lst vs,.lst ([y0,y1,y2].map MV.str)]:Sto)=P at w;have p0:P[0]? =#[vs,2]:=by rw[<-X];rfl
 have p1:P[1]? =#[[y0,y1,y2].map MV.str,2]:=by rw[<-X];rfl
 have p2:P.length=2:=by rw[<-X];rfl
 obtain⟨c3,ak⟩:=DH j 3 ↑15 P;obtain⟨u,ai⟩:=nN c3 P;have m3:=md (x:=u) (n:=3);have l4:2<(P++[MO.lst []]).length:=by rw[lA,p2];decide
 have J:=xM (S:=P++[.lst []]) (l:=2) (x:=u) (n:=3) l4;refine(Qq (S:=P++[.lst []]) (M:=(1+u % 3).toNat) (l:=2) (p:=0) (q:=1) l4 ↑15 ↑15 (zI p0) (zI p1) D W L (by simp) (by simp) I #[] (u / 3)).b λas z2 al hA C=>?_;rw[show zN (1+u % 3).toNat=.int (1+u % 3) by unfold zN;rw[Int.toNat_of_nonneg #[]]]at C;have wi: ∀z,Wl (P++[.lst []]) 2 z=P++[.lst [.int z]]:=λz=>by rw[<-p2];exact(rW P z).symm
 rw[wi,wi]at J C;generalize s:P++[.lst [.int z2]]++[.lst #[as,9]]=S4;have q0:S4[0]? =#[vs,2]:=by rw[<-s];exact zI (zI p0)
 have q3:S4[3]? =#[as.map zY,2]:=by rw[<-s,show 3=(P++[MO.lst [.int z2]]).length by rw[lA,p2];rfl];exact zF _ _
 have Y:S4.length=4:=by rw[<-s,lA,lA,p2];rfl
 obtain⟨c5,ae⟩:=DH j 5 ↑15 S4;obtain⟨t5,av⟩:=nN c5 S4;have a0: ∀b∈as,(∀d∈b.2,gQ d)/\b.2.length<=4:=(C9 (hs:=[]) (rs:=[]) I D W L rfl hA #[] (by simp) (λy h=>by cases h) (λr h=>by cases h) (by simp)).ha;refine(Qr (t:=t5) q3 a0 #[]).elim λhs V=>V.g λZ hh ab B=>?_;obtain⟨c4,az⟩:=DH j 4 ↑15 S4;refine(Yr (S:=S4) (p:=0) q0 D W L I c4 (cs:=j.drop 6) (by rw[Ĩ];lia)).c λRs hR aj H=>?_;refine(Zr D hR aj S4).elim λrs a1=>a1.g λhr rl ah E=>?_;have Q:=C9 (ys:=[y0,y1,y2]) I D W L rfl hA #[] Z hh hr rl;have ne:as≠[]:=λz=>by rw[z]at al;simp at al;lia
 have U:=zF S4 (.lst #[rs,9]);rw[Y]at U;refine(B8 (S:=S4++[.lst #[rs,9]]) (lr:=4) Q ne U).b λF _ nd hF _=>?_;have an:=an_l Q ne nd hF U;generalize m:S4++[.lst #[rs,9]]++[.lst ((oN F).map MV.tup)]=S6;have s0:S6[0]? =#[vs,2]:=by rw[<-m];exact zI (zI q0)
 have s4:S6[4]? =#[rs.map zY,2]:=by rw[<-m];exact zI U
 have s5:S6[5]? =#[(oN F).map MV.tup,2]:=by rw[<-m,show 5=(S4++[MO.lst #[rs,9]]).length by rw[lA,Y];rfl];exact zF _ _
 refine(zBB D L s0).a λo ho N=>?_;have G:DP (.val (.scr (j.map MV.int))) (some 6) none S4=#[(j.drop 6).map MV.int,S4,2]:=by show R.ok (Er.new (dM (j.map MV.int) (some ((6:Nat):Int)) none)) S4=_;rw[KA,map_drop]
 have tB: ∀bs:List Bool,bs.length<=2-> ∀x y, ∃x' y',HU (LW (.scr (j.map MV.int)) ts hs as o #[bs.map (LN o),3] x y) S6=#[LW (.scr (j.map MV.int)) ts hs as o #[bs.map (LN o),3] x' y',S6,0]:=λbs hb x y=>Rx {λr h=>(by refine(hr r h).f λh1 h2 Z=>?_;refine{h1,?_,λc hc=>{D c (Z c hc),λz=>ho (z▸Z c hc)}};unfold Kw at h2;rw[gE #[]]at h2;have:=I.2.2 _ (Ľ (show r.1.toNat<ts.length by lia));exact List.exists_cons_of_length_pos (by rw[h2];simp;lia)),rl,hb,ah} Q ne ab nd hF ho _ s4 s5 x y;refine(tB [] (by simp) none none).k λx1 aa ag=>?_;refine(tB [false,true] (by simp) x1 aa).k λx2 au ax=>?_;have v: ∀(a:MV) S,yH [.val a] S=.ok #[[a],6] S:=λ_ _=>FA (by simp);have K: ∀(a b c d e:MV) S,yH [.val a,.val b,.val c,.val d,.val e] S=.ok #[[a,b,c,d,e],6] S:=λ_ _ _ _ _ _=>FA (by simp);have Wa: ∀(a b:MV) S,xN [.val a,.val b] S=#[[a,b],S,2]:=λ_ _ _=>AA (by simp);have O:SZ #[[.str o],6] #[((hs.map MV.str).length:Nat),5] S6=#[.tup (hs.map λ_=>.str o),S6,1]:=by unfold SZ;dsimp only;rw[lM,ą,List.flatten_replicate_singleton,List.map_const',iP {by lia,by lia,by simp;lia}]
 refine{S6,?_};show zG (Gn [some (.scr (j.map MV.int)),none,none,none,none,none,none,none,none,none,none,none,none,none,none] [])=_;unfold Gn;have t0: ∀S,yH [] S=.ok #[[],6] S:=λ_=>rfl;have hq: ∀S,yE (.val (qM hs as)) #[0,5] S=.ok #[hs.map MV.str,6] S:=λS=>ix_tup rfl;refine zW (zA (by unfold WQ;simp? [ao,ar,T,rX];rfl) ?_);refine zA (S':=[.lst vs]) (ρ':=_::_::#[0]::_) (by unfold WR;simp? [aw,ay,A];rfl) ?_;refine zA (S':=P) (ρ':=_::_::_::#[1]::_) (by unfold WS;simp? [aq,af,w];rw[<-X];rfl) ?_;refine zA (by unfold WT;simp? [ak,ai,p2];rfl) ?_;refine zA (S':=S4) (ρ':=_::_::_::_::_::#[3]::_) (by unfold WU;simp? [J,show∀S,kL #[1,5] #[u % 3,5] S=.ok #[1+u % 3,5] S from λ_=>rfl,C];rw[lA,p2,s];rfl) ?_;refine zA (by unfold WV;simp? [ae,av,B,rX,UA q3,tup2];rfl) ?_;refine zA (by unfold WW;simp? [G,az,H,E,Y];rfl) ?_;refine zA (S':=S6) (ρ':=_::_::_::_::_::_::_::_::#[5]::_) (by unfold WX;simp? [an];rw[lA,Y,m];rfl) ?_;refine zA (by unfold WY;simp? [N];rfl) ?_;refine zA (by unfold PX;simp? [v,tup2,Wb,K];rfl) ?_;refine zA (by unfold PY;simp? [v,hq,DE,O];rfl) ?_;refine zA (S':=S6) (ρ':=LW (.scr (j.map MV.int)) ts hs as o #[[false,true].map (LN o),3] x2 au) ?_ (by rfl);unfold PZ;simp? [t0,Wa,pR];exact(yC rfl ag (yU _)).trans ((yC rfl ax (yU _)).trans rfl)
noncomputable def top(i:Nat):Stmt:=PySem.Challenge.pw_mendsure_k45_good_books.main.body.getD i (.Pass {0,0,0,0})
set_option bootstrap.genMatcherCode true in
local macro_rules
 | `(tactic|exists 1,$t)=>`(tactic|with_reducible show $t)
 | `(tactic|exists 7,$t)=>`(tactic|exists 1,zS _ _ _ $t)
 | `(tactic|exists 3,$t)=>`(tactic|exists 1,zS _ _ (.Call (.Name $t _) _ _ _) _)
 | `(tactic|exists 4,$t)=>`(tactic|exists 1,zS _ _ (.Call (.Attribute _ $t _) _ _ _) _)
 | `(tactic|exists 5,$t)=>`(tactic|exists 1,zS _ _ (.BinOp _ $t _ _) _)
 | `(tactic|exists 6,$t)=>`(tactic|exists 1,zS _ _ (.Compare _ [$t] _ _) _)
 | `(tactic|and_intros)=>`(tactic|repeat' (first |(exists 5,ME _ _ _ (λ_ _=>R.no),Ng)|(exists 5,GQ _ _ [_] _,Ck ?_)|(exists 5,GQ _ _ (_::_) _,VA ?_ ?_)|(exists 5,GQ _ _ [] _,N1)|(exists 5,ME _ _ (.Assign _ (.ListComp _ _ _ _) _) _,Qc ‹_› ?_ (λ_ _ _ _ _=>?_) (λ_ _ _ _=>?_) (λ_ _ _ _=>?_))|(exists 5,ME _ _ (.Assign [.Name _ _] _ _) _,N7 _ ‹_› ?_)|(exists 5,ME _ _ (.Assign _ _ _) _,N8 ?_ ?_)|(exists 5,ME _ _ (.AugAssign _ _ _ _) _,Qe ?_ ?_ ?_)|(exists 5,ME _ _ (.Return _ _) _,N2 ?_)|(exists 5,ME _ _ (.For _ _ _ _ _) _,O1 PassesOwn.never rfl ?_ ?_ ?_)|(exists 5,ME _ _ (.If _ _ _ _) _,zCX ?_ ?_ ?_)|(exists 5,ME _ _ (.Expr _ _) _,Uk ?_)|(exists 5,ME _ _ (.While _ _ _ _) _,Ni _ PassesOwn.never ?_ ?_)|(exists 1,zS _ _ (.Name _ _) _;first |(exists 5,zS _ _ (.Name _ _) (vJ _),L5 _)|exact Ud rfl ‹_› |exact Mx rfl (by exists 6) bt_int|exact Mx rfl (by exists 6) bt_bool|exact Mx rfl (by exists 6) R5)|(exists 1,zS _ _ (.Constant _ _ _) _;first |exact L7|exact L9 _|exact zCT|exact L8)|(exists 1,zS _ _ (.UnaryOp _ _ _) _;first |refine pm_not ?_|exact M1)|(exists 5,zS _ _ (.List _ _) _,M9 ?_)|(exists 5,zS _ _ (.Tuple _ _ _) _,M8 ?_)|(exists 1,zS _ _ (.BinOp _ _ _ _) _;first |(exists 5,zS _ _ (.BinOp _ .Add _ _) _,P7 ?_ ?_)|(exists 5,zS _ _ (.BinOp _ .Mult _ _) (dJ EX _ _),P8 ?_ ?_)|(exists 5,zS _ _ (.BinOp _ .Mod _ _) _,O9 ?_ ?_)|(exists 5,zS _ _ (.BinOp _ .Sub _ _) _,O7 ?_ ?_)|(exists 5,zS _ _ (.BinOp _ .BitAnd _ _) _,Xl ?_ ?_)|(exists 5,zS _ _ (.BinOp _ .LShift _ _) _,P6 ?_ ?_)|(exists 5,zS _ _ (.BinOp _ .FloorDiv _ _) _,O8 ?_ ?_)|(exists 5,zS _ _ (.BinOp _ .Pow _ _) _,P5 ?_ ?_)|(exists 5,zS _ _ (.BinOp _ .Mult _ _) (dJ SZ _ _),Wv ?_ ?_)|(exists 5,zS _ _ (.BinOp _ .BitOr _ _) _,X8 ?_ ?_)|(exists 5,zS _ _ (.BinOp _ .RShift _ _) _,X3 ?_ ?_))|(exists 1,zS _ _ (.Compare _ _ _ _) _;first |(exists 5,zS _ _ (.Compare _ [.Eq] _ _) _,zDA (Room.units ‹_›) ?_ ?_)|(exists 5,zS _ _ (.Compare _ [.Gt] _ _) _,zDE ?_ ?_))|(exists 1,zS _ _ (.Subscript _ _ _) _;first |(exists 5,zS _ _ (.Subscript _ _ _) (dJ yE _ _),zDG ?_ ?_)|(exists 5,zS _ _ (.Subscript _ _ _) (tJ DP _ _ _),Q4 ?_ ?_ ?_)|(exists 5,zS _ _ (.Subscript _ _ _) (dJ ZV _ _),X9 ?_ ?_))|(exists 5,zS (zP _ _ _ _ _ _ _ _) _ (.ListComp _ _ _ _) _,Qd ‹_› ?_ (λ_ _ _ _ _=>?_) (λ_ _ _ _=>?_) (λ_ _ _ _=>?_))|(exists 5,zS _ _ (.ListComp _ _ _ _) _,Qb ‹_› ?_ (λ_ _ _ _ _=>?_) (λ_ _ _ _=>?_) (λ_ _ _ _=>?_))|(exists 5,zS _ _ (.Attribute _ _ _) _,Wy ‹_› ?_)|(exists 5,zS _ _ (.Dict _ _ _) _,Os)|(exists 5,zS _ _ (.IfExp _ _ _ _) _,zCU ?_ ?_ ?_)|(exists 1,zS _ _ (.BoolOp _ _ _) _;first |refine M2 ?_|refine M3 ?_ ?_)|(exists 1,zS _ _ (.Call (.Attribute _ _ _) _ _ _) _;first |(exists 6,"append",Jf ?_ ?_)|(exists 6,"get",zEG (Room.units ‹_›) ?_ ?_)|(exists 6,"lacks",OU ‹_› (Room.mono ‹_› (by decide)) ?_ ?_)|(exists 6,"extend",Jt ?_ ?_)|(exists 6,"parts_them",OU ‹_› (Room.mono ‹_› (by decide)) ?_ ?_)|(exists 6,"bars",OU ‹_› (Room.mono ‹_› (by decide)) ?_ ?_)|(exists 6,"setdefault",X7 ?_ ?_)|(exists 6,"setdefault",zDW (Room.units ‹_›) ?_ ?_)|(exists 6,"update",Xj ?_ ?_)|(exists 6,"pop",W2 ?_ ?_))|(exists 1,zS _ _ (.Call (.Name _ _) _ _ _) _;first |(exists 6,"len",_,aL Jc Q7 rfl (by exists 6) Of ?_)|(exists 6,"tuple",_,bT QW Oe rfl (by exists 6) OI ?_)|(exists 6,"tuple",(bJ _ HD),Wx rfl rfl (by exists 6) rfl (by exists 6) ?_)|(exists 6,"isinstance",_,aL Od R1 rfl (by exists 6) RF ?_)|(exists 6,"any",_,aL WD (X2 rfl) rfl (by exists 6) R4 ?_)|(exists 6,"list",(bJ _ OH),bT US Vk rfl (by exists 6) VJ ?_)|(exists 6,"dict",(bJ _ Y3),Xt rfl rfl (by exists 6) rfl (by exists 6) ?_)|(exists 6,"list",(bJ _ sO),bT Dt (Qa rfl) rfl (by exists 6) VJ ?_)|(exists 6,"sorted",_,Ab false ‹_› (Room.mono ‹_› (by decide)) rfl (by exists 6) rfl ?_)|(exists 6,"all",_,aL UW (Q9 rfl) rfl (by exists 6) R3 ?_)|(exists 6,"Never",_,OV ‹_› (Room.mono ‹_› (by decide)) rfl ?_)|(exists 6,"Apart",_,OV ‹_› (Room.mono ‹_› (by decide)) rfl ?_)|(exists 6,"Tie",_,OV ‹_› (Room.mono ‹_› (by decide)) rfl ?_)|(exists 6,"dict",_,bT Kc (Xg rfl) rfl (by exists 6) MP ?_)|(exists 6,"tuple",(bJ _ TD),bT Ka (Xd rfl) rfl (by exists 6) OI ?_)|(exists 6,"len",_,aL Ke Xk rfl (by exists 6) Of ?_)|(exists 6,"sorted",(bJ _ TF),aL Kb (Xe rfl) rfl (by exists 6) FF ?_)|(exists 6,"sorted",(bJ _ ZM),aL Jo Ww rfl (by exists 6) FF ?_)|(exists 6,"sorted",(bJ _ Ag),aL Kr Ya rfl (by exists 6) FF ?_)|(exists 6,"list",(bJ _ JF),bT Cw (Pj rfl) rfl (by exists 6) VJ ?_)|(exists 6,"dict",(bJ _ Dk),bT Pk X4 rfl (by exists 6) MP ?_)|(exists 6,"dict",(bJ _ TR),bT (Kj (Room.units ‹_›)) (Xm rfl) rfl (by exists 6) MP ?_)|refine Pb ‹_› (Room.mono ‹_› (by decide)) rfl ?_)|(exists 1,vV _ _ (.Compare _ _ _ _) _;first |(exists 5,vV _ _ (.Compare _ [.NotEq] _ _) _,zDC (Room.units ‹_›) ?_ ?_)|(exists 5,vV _ _ (.Compare _ [.Eq] _ _) _,zDB (Room.units ‹_›) ?_ ?_)|(exists 5,vV _ _ (.Compare _ [.NotIn] _ _) _,Ob (Room.units ‹_›) ?_ ?_)|(exists 5,vV _ _ (.Compare _ [.In] _ _) _,zDH (Room.units ‹_›) ?_ ?_)|(exists 5,vV _ _ (.Compare _ [.IsNot] _ _) _,Nz ?_ ?_)|(exists 5,vV _ _ (.Compare _ [.In] _ _) _,X1 ?_ ?_)|(exists 5,vV _ _ (.Compare _ [.Gt] _ _) _,zDF ?_ ?_)|(exists 5,vV _ _ (.Compare _ [.Lt] _ _) _,zDD (Room.units ‹_›) ?_ ?_)|(exists 5,vV _ _ (.Compare _ [.NotIn] _ _) _,Jy ?_ ?_))|(exists 5,vV _ _ (.UnaryOp _ _ _) _,M6 ?_)|(exists 5,vV _ _ (.BoolOp _ _ _) _,zCW ?_)|(exists 5,vV _ _ _ _,Nd ?_)|(exists 1,A1 _ _ _ _;first |refine Ug ?_|refine M5 ?_ ?_|refine M4 ?_|refine zCV ?_ ?_)|(exists 1,KQ _ _ _ _;first |refine Uh ?_ ?_|exact M7)|(exists 1,L4 _ _ _ _;first |refine Uj ?_|exact Ui)|(exists 1,VB _ _ _ _;first |exact Ut|refine Uu ?_)|(exists 1,NZ _ _ _ _ _;first |(exists 5,NZ _ _ _ _ (bJ _ vI),Uq ?_)|(exists 5,NZ _ _ _ _ (bJ _ SR),N9 ?_)|(exists 5,NZ _ _ _ _ (bJ _ iW),Iw rfl (by exists 6) ?_)|(exists 5,NZ _ _ _ _ (bJ _ VT),We rfl (by exists 6) ?_)|(exists 5,NZ _ _ _ _ (bJ _ itQ),V9 ?_)|(exists 5,NZ _ _ _ _ (bJ _ WH),Xx ?_)|(exists 5,NZ _ _ _ _ (bJ _ A6),R9 rfl (by exists 6) ?_)|(exists 5,NZ _ _ _ _ (bJ _ WG),Pr ?_))|(exists 5,Iu _ _ (.Name _ _) _,Ul _ ‹_›)|(exists 1,Iu _ _ _ _;first |refine N4 rfl ?_|(exists 5,Iu _ _ _ (DJ HA _ _),Wg (Room.units ‹_›) ?_ ?_)|(exists 5,Iu _ _ _ (DJ TB _ _),Xc ?_ ?_)|(exists 5,Iu _ _ _ (DJ KU _ _),R7 ?_ ?_))|(exists 1,Nh _ _ _ _;first |refine Um ?_ ?_|exact N3)|(exists 5,Nj _ _ _ (.Name _ _) _,Ur _ ‹_›)|(exists 5,Nj _ _ _ _ _,O3 rfl ?_)|(exists 1,Nk _ _ _ _ _;first |refine Us ?_ ?_|exact O2)))
 | `(tactic|exists 6)=>`(tactic|((show mg _=none);exact e.z.zz (by decide+kernel)))
set_option bootstrap.genMatcherCode true in
local macro_rules
 | `(tactic|exists 3,$i,$f:ident,$xs:ident,*)=>`(tactic|(refine okA $f (e.d.df (i:=$i) (by decide+kernel)) (λ_ _ _ _ _ _ _ _ _ _=>?_);delta $f $xs*; (first |refine Ck ?_|refine VA ?_ ?_);and_intros))
set_option bootstrap.genMatcherCode true in
local macro_rules
 | `(tactic|exists 0,$f:ident,$xs:ident,*)=>`(tactic|(refine okL $f ‹_› (λ_ _ _ _ _ _ _ _ _=>?_);delta $f $xs*; (first |refine Ck ?_|refine VA ?_ ?_);and_intros))
def Rz:FnScope ["self","parts"] ["self","parts"] (zR (inClass (top 10) 0)):=fsK (by decide+kernel)
set_option bootstrap.genMatcherCode true in
local macro_rules
 | `(tactic|exists 5,$p,$r)=>`(tactic|((with_reducible show $p);refine $r))
set_option bootstrap.genMatcherCode true in
local macro_rules
 | `(tactic|exists 6,$n,$f,$r)=>`(tactic|((with_reducible show zS _ _ (.Call (.Name $n _) _ _ _) $f);refine $r))
set_option bootstrap.genMatcherCode true in
local macro_rules
 | `(tactic|exists 6,$n,$r)=>`(tactic|((with_reducible show zS _ _ (.Call (.Attribute _ $n _) _ _ _) _);refine $r))
set_option bootstrap.genMatcherCode true in
local macro_rules
 | `(tactic|exists 4,$g)=>`(tactic|have:=$g e)
set_option bootstrap.genMatcherCode true in
local macro_rules
 | `(tactic|exists 4,$g,$h,$gs,*)=>`(tactic|(have:=$g e;exists 4,$h,$gs,*))
set_option bootstrap.genMatcherCode true in
local macro_rules
 | `(tactic|exists 4,$g,$h)=>`(tactic|(have:=$g e;have:=$h e))
def AllP{α:Type}(p:α->Prop):List α->Prop
 |[]=>True
 |a::r=>p a/\AllP p r
theorem AllP.at: ∀{l},AllP p l->a∈l->p a
 |b::l,h,z=>by
  rcases mC.mp z with z|z
  .cases z;exact h.1
  .exact AllP.at h.2 z
abbrev AllD(K:O0)(mg:G0)(l:List (Str×Nat)):Prop:=AllP (λ|(x,i)=>DefM K mg x (top i)) l
def AllD.df{K:O0}(d:AllD K mg l)(h:(x,i)∈l):DefM K mg x (top i):=d.at h
def Kls(K:O0)(c a q:Str)(j:Stmt)(l:List (Str×Str×Stmt)):Prop:= ∃C,OC K c C/\NoAttr K C a/\(∃f b,Mk K C f/\Fun K "__init__" q j f b)/\AllP (λ|(m,q,st)=> ∃f b,Meth K C m f/\Fun K m q st f b) l
section
variable{K:O0}{mg:G0}{st:Stmt}
def Kls.fl(H:Kls K c fld q st0 l): ∃C,OC K c C/\NoAttr K C fld:=let ⟨C,o,a,_⟩:=H;⟨C,o,a⟩
def Kls.mk(H:Kls K c fld q st0 l)(X:K.In h)(s:h.Ns mainGlobals mg)(g: ∀f j,Fun K "__init__" q st0 f j->FnOk P w K mg base rE 1 f j ["self",par] (zBI K fld))
  (hb: ∀ kV u B  v  m ct  us ,us.length=2->bindArgs (PySem.W.fnOf "__init__" q (fQ st0) (wY st0) (zR st0) .none kV u B v m ct) {us,[]}=pure ((["self",par]:D0).zip us):=by exact λ_ _ _ _ _ _=>Y8 (by(repeat intro _);rfl)):zEA P w K mg base c fld:=
 let ⟨C,o,a,⟨f,j,mk,b⟩,_⟩:=H;(ZB C f j par {o,a,mk,g f j b,b.binds hb,PySem.W.mg_of X s o.ns})
def Kls.mt(H:Kls K c fld q st0 l){q:Str}(z:(m,q,st)∈l)(g: ∀f j,Fun K m q st f j->FnOk P w K mg base rE k f j ps (KR ⟨K,mg,P,w⟩ n F))
  (hb: ∀ kV v G  D  u ct  us ,us.length=ps.length->bindArgs (PySem.W.fnOf m q (fQ st) (wY st) (zR st) .none kV v G D u ct) {us,[]}=pure (ps.zip us):=by exact λ_ _ _ _ _ _=>Y8 (by(repeat intro _);rfl)): ∃C B j ps,OC K c C/\Meth K C m B/\FnOk P w K mg base rE k B j ps (KR ⟨K,mg,P,w⟩ n F)/\Binds K j ps []:=
 let ⟨C,o,_,_,b⟩:=H;let ⟨f,j,s,a⟩:=b.at z;(ZB C f j ps {o,s,g f j a,a.binds hb})
def AllP.zz(H:AllP (λx=>mg x=none) z)(a:x∈z):mg x=none:=H.at a
end
structure EV(P:Ŏ)(w:World)(K:O0)(mg:G0)(base:Heap):Prop where
 d:AllD K mg (("is_whole",1)::("value_rank",2)::("tuple_rank",3)::("in_order",4)::("side_value",6)::("fulfils",7)::("fulfils_all",8)::("cells_in",9)::("rule_of",14)::("rules_of",16)::("all_rows",17)::("pairs_of",18)::("key_of",19)::("breaks_of_two",20)::("ties_of",21)::("has_one_of",22)::("untied_among",23)::("tied_within",24)::("held",25)::("clashes",26)::("foes_of",32)::("check_width",33)::("peaceful_sets",35)::("has_all",36)::("has_all_and_more",37)::("mended",38)::("names_in",41)::("term_with",42)::("fitting",43)::("fits_of",44)::("values_at",45)::("cut",46)::("joined",47)::("marked_answers",48)::("answers",49)::("marks_of",51)::("found_in",52)::("sure",53)::("maybe",54)::("atom_with",55)::("asked_of",56)::("mended_by_answer",57)::("first_of",58)::("failing",59)::("standing",60)::("odds",61)::("_law_cell_at",63)::("_law_digits",64)::("_law_take",65)::("_law_word",66)::("_law_pool",67)::("_law_tables",68)::("_law_row",69)::("_law_rows",70)::("_law_term",71)::("_law_atoms",72)::("_law_names_in",73)::("_law_head",74)::("_law_names",75)::("_law_kept_rows",76)::("_law_strange",77)::("_law_right",78)::("law",79)::[])
 z:AllP (λx=>mg x=none) ["all","any","bool","dict","enumerate","int","isinstance","len","list","range","sorted","str","tuple","zip"]
 k_Rule:Kls K "Rule" "parts" "Rule.__init__" (inClass (top 10) 0) [("bars","Rule.bars",inClass (top 10) 1),("parts_them","Rule.parts_them",inClass (top 10) 2),("lacks","Rule.lacks",inClass (top 10) 3)]
 k_Never:Kls K "Never" "parts" "Rule.__init__" (inClass (top 10) 0) [("parts_them","Rule.parts_them",inClass (top 10) 2),("lacks","Rule.lacks",inClass (top 10) 3),("bars","Never.bars",inClass (top 11) 0)]
 k_Apart:Kls K "Apart" "parts" "Rule.__init__" (inClass (top 10) 0) [("bars","Rule.bars",inClass (top 10) 1),("lacks","Rule.lacks",inClass (top 10) 3),("parts_in_turn","Apart.parts_in_turn",inClass (top 12) 0),("parts_them","Apart.parts_them",inClass (top 12) 1)]
 k_Tie:Kls K "Tie" "parts" "Rule.__init__" (inClass (top 10) 0) [("bars","Rule.bars",inClass (top 10) 1),("parts_them","Rule.parts_them",inClass (top 10) 2),("lacks","Tie.lacks",inClass (top 13) 0)]
 h: ∃h,K.In h/\h.Ns mainGlobals mg
 m_EVERYWHERE: ∃t,mg "EVERYWHERE"=some (.int (-1) t)
 m_MOST_CLASHING: ∃t,mg "MOST_CLASHING"=some (.int (15) t)
section
variable{K:O0}(e:EV P w K mg base)
include e
theorem m_EVERYWHERE:mg "EVERYWHERE"=some (.int (-1) e.m_EVERYWHERE.choose):=e.m_EVERYWHERE.choose_spec
theorem m_MOST_CLASHING:mg "MOST_CLASHING"=some (.int (15) e.m_MOST_CLASHING.choose):=e.m_MOST_CLASHING.choose_spec
theorem gi(f)(fd)(F:Fun K "__init__" "Rule.__init__" (inClass (top 10) 0) f fd):FnOk P w K mg base rE 1 f fd ["self","parts"] (zBI K "parts"):=(by
  refine F.ok Rz (λvs H Q E h=>?_) λb A a s H vs Q E y h=>?_
  .refine h.q λ_ _ _ _ _ k=>k.elim λD _=>?_;subst D;rfl
  .refine h.q λx C j fs v B=>B.e λG u c m o q=>?_;subst G;exact{_,(λb A a s H E=>Em (J5 (pv 0) (pv 1) rfl)) b A a s H E,v,rfl,_,rfl,x,C,j,fs,rfl,u,c,m,o,q})
theorem Lg:zEA P w K mg base "Never" "parts":=let ⟨_,X,G⟩:=e.h;e.k_Never.mk X G (gi e)
theorem Lh:zEA P w K mg base "Apart" "parts":=let ⟨_,X,G⟩:=e.h;e.k_Apart.mk X G (gi e)
theorem Zu:zEA P w K mg base "Tie" "parts":=let ⟨_,X,G⟩:=e.h;e.k_Tie.mk X G (gi e)
theorem Bi:FlB K Yb "parts":=ô.2 {e.k_Rule.fl,ô.2 {e.k_Never.fl,ô.2 {e.k_Apart.fl,ô.2 {e.k_Tie.fl,λ_ h=>nomatch h}}}}
theorem RP:yF P w K mg base "value_rank" 1 1 ["value"] sP:=by exists 3,2,fS,AH,AI
theorem RQ:yF P w K mg base "tuple_rank" 2 1 ["values"] sQ:=by exists 4,RP;exists 3,3,fU,lI,dS,jR
theorem CA:yF P w K mg base "in_order" 5 1 ["some"] lL:=by exists 4,RQ;exists 3,4,sS,fW,fX,sR,fV,lK
theorem RR:yF P w K mg base "side_value" 1 2 ["side","looked_at"] bZ:=by exists 3,6,sT,bY,lN
theorem Ed:yF P w K mg base "fulfils" 2 2 ["looked_at","test"] CP:=by exists 4,RR;exists 3,7,JM,AK,AM,AN,LB,LC
theorem QM:yF P w K mg base "fulfils_all" 3 2 ["looked_at","tests"] nR:=by exists 4,Ed;exists 3,8,nQ,eC,cA,kC
theorem Bj:yF P w K mg base "cells_in" 1 2 ["row","columns"] lP:=by exists 3,9,sV,sU,lO,cB
theorem uY(f)(fd)(F:Fun K "bars" "Rule.bars" (inClass (top 10) 1) f fd):FnOk P w K mg base rE 4 f fd ["self","row"] (KR ⟨K,mg,P,w⟩ 2 aO):=by exists 0,LD,EB
theorem bS(f)(fd)(F:Fun K "parts_them" "Rule.parts_them" (inClass (top 10) 2) f fd):FnOk P w K mg base rE 1 f fd ["self","row","other"] (KR ⟨K,mg,P,w⟩ 3 xG):=by exists 0,oW,fH
theorem rB(f)(fd)(F:Fun K "lacks" "Rule.lacks" (inClass (top 10) 3) f fd):FnOk P w K mg base rE 2 f fd ["self","row","rows"] (KR ⟨K,mg,P,w⟩ 3 cC):=by exists 0,HI,AO
theorem RS(f)(fd)(F:Fun K "bars" "Never.bars" (inClass (top 11) 0) f fd):FnOk P w K mg base rE 4 f fd ["self","row"] (KR ⟨K,mg,P,w⟩ 2 sW):=by exists 4,Bi,QM;exists 0,fY,lQ
theorem DT(f)(fd)(F:Fun K "parts_them" "Apart.parts_them" (inClass (top 12) 1) f fd):FnOk P w K mg base rE 1 f fd ["self","row","other"] (KR ⟨K,mg,P,w⟩ 3 lU):=by exists 0,lR,aP
theorem YA(f)(fd)(F:Fun K "lacks" "Tie.lacks" (inClass (top 13) 0) f fd):FnOk P w K mg base rE 2 f fd ["self","row","rows"] (KR ⟨K,mg,P,w⟩ 3 AQ):=by exists 4,Bi,Bj;exists 0,aQ,nS,pV,nT,EC,gH,wQ
theorem Ee:yF P w K mg base "rule_of" 3 1 ["parts"] JN:=by exists 4,Lg,Lh,Zu;exists 3,14,TV,oX,AR,LE
theorem CB:yF P w K mg base "rules_of" 4 1 ["book"] lW:=by exists 4,Ee;exists 3,16,sY,sX,lV,cE
theorem LO:yF P w K mg base "all_rows" 1 1 ["book"] tE:=by exists 3,17,tD,sZ
theorem Bk:yF P w K mg base "pairs_of" 1 1 ["rows"] FG:=by exists 3,18,tH,tF,tG,HK,fZ,lY,lX,cF
theorem Li:yF P w K mg base "key_of" 1 2 ["tables","row"] HM:=by exists 3,19,HL,FH
theorem YB:MtB P w K mg base "parts_them" 1 3 pW:=ô.2 {e.k_Rule.mt t1M (bS e),ô.2 {e.k_Never.mt (.head _) (bS e),ô.2 {e.k_Apart.mt ((.tail _ (.tail _ (.tail _ (.head _))))) (DT e),ô.2 {e.k_Tie.mt t1M (bS e),λ_ h=>nomatch h}}}}
theorem KC:yF P w K mg base "breaks_of_two" 2 4 ["book","rules","i","j"] eE:=by exists 4,YB,Li;exists 3,20,gR,cG,cH,cI,cJ,oY,xT,gB
theorem Zv:MtB P w K mg base "lacks" 2 3 AS:=ô.2 {e.k_Rule.mt t2M (rB e),ô.2 {e.k_Never.mt t1M (rB e),ô.2 {e.k_Apart.mt t1M (rB e),ô.2 {e.k_Tie.mt t2M (YA e),λ_ h=>nomatch h}}}}
theorem QN:yF P w K mg base "ties_of" 5 1 ["book"] rM:=by exists 4,CB,Zv;exists 3,21,CQ,AT,AU,LF,oZ,pY,aR,nV,nU,pX
theorem RT:yF P w K mg base "has_one_of" 1 2 ["kept","some"] tK:=by exists 3,22,tI,mB,AV,lZ,dU
theorem LX:yF P w K mg base "untied_among" 2 2 ["ties","kept"] cL:=by exists 4,RT;exists 3,23,cK,dW,wG,bH
theorem CC:yF P w K mg base "tied_within" 3 2 ["ties","rows"] gI:=by exists 4,LX;exists 3,24,pZ,eF,eH,eI,eK,cM,cN,vF,pB,pC,vE,pA
theorem zBC:MtB P w K mg base "bars" 4 2 WI:=ô.2 {e.k_Rule.mt (.head _) (uY e),ô.2 {e.k_Never.mt t2M (RS e),ô.2 {e.k_Apart.mt (.head _) (uY e),ô.2 {e.k_Tie.mt (.head _) (uY e),λ_ h=>nomatch h}}}}
theorem Hs:yF P w K mg base "held" 6 2 ["book","rows"] PK:=by exists 4,CB,zBC,CC,QN;exists 3,25,WJ,PF,PH,PJ,tN,FL,FK,tL
theorem Ef:yF P w K mg base "clashes" 7 1 ["book"] JO:=by exists 4,CB,Bk,Hs,LO,KC;exists 3,26,CS,AW,BA,nW,qA
theorem Eg:yF P w K mg base "foes_of" 8 1 ["book"] JQ:=by exists 4,Ef;exists 3,32,JP,BB,BC,LH,LG,ED,EE
theorem QO:yF P w K mg base "check_width" 1 1 ["foes"] qB:=by exists 4,m_MOST_CLASHING;exists 3,33,nY,eM
theorem KD:yF P w K mg base "peaceful_sets" 1 1 ["foes"] eO:=by exists 3,35,gT,cO,cP,cQ,cR,pD,fI,fM,fO,fP
theorem Eh:yF P w K mg base "has_all" 1 2 ["rows","some"] TZ:=by exists 3,36,TX,LI
theorem DU:yF P w K mg base "has_all_and_more" 2 2 ["rows","some"] bI:=by exists 4,Eh;exists 3,37,wH,kQ
theorem KE:yF P w K mg base "mended" 9 1 ["book"] BD:=by exists 4,Eg,QO,Hs,LO,QN,KD,CC,DU;exists 3,38,HN,FN,FO,FP,mE,FQ,FR,FS,iA,tO,FM,iC,tR,tP,tQ,iB
theorem Bl:yF P w K mg base "names_in" 1 1 ["atoms"] kR:=by exists 3,41,tS,iD,iE,iG,cU,mG,cT,cS
theorem YC:yF P w K mg base "term_with" 1 2 ["term","values"] BF:=by exists 3,42,BE,gM,EF
theorem Ei:yF P w K mg base "fitting" 1 2 ["terms","cells"] rO:=by exists 3,43,iR,pE,pF,LK,wC,yX,nZ
theorem Ej:yF P w K mg base "fits_of" 2 3 ["rows","marks","atom"] CV:=by exists 4,Ei;exists 3,44,CT,BG,BH,gN,gO,qC,qD
theorem uZ:yF P w K mg base "values_at" 1 2 ["values","names"] yY:=by exists 3,45,pG,qE,eP,gU
theorem zBD:yF P w K mg base "cut" 2 2 ["fits","names"] Ah:=by exists 4,uZ;exists 3,46,Gk,WK,WL,WM,MQ,JT,rP,JR,JS
theorem Lj:yF P w K mg base "joined" 2 3 ["fits","others","shared"] HQ:=by exists 4,uZ;exists 3,47,HP,FU,FV,FW,FX,PL,tV,tY,tU,tX,mH,tW
theorem pS:yF P w K mg base "marked_answers" 3 3 ["rows","marks","question"] yZ:=by exists 4,m_EVERYWHERE,Bl,zBD,Ej,Lj,uZ;exists 3,48,dX,mI,mK,bK,bL,bM,bN,yO,xH,yS,kX,kY,kZ,jA,jB,jC,jD,kS,aS,kT,aT,kU,aU,kW,aV
theorem Ek:yF P w K mg base "answers" 6 2 ["rows","question"] rQ:=by exists 4,CA,pS;exists 3,49,CW,BI,qF,qG
theorem Bm:yF P w K mg base "marks_of" 1 2 ["book","told"] FY:=by exists 3,51,uC,uA,uB,HR,mL,mN,tZ,mQ,iH,mP
theorem CD:yF P w K mg base "found_in" 4 3 PD jE:=by exists 4,pS,Bm;exists 3,52,uE,uD
theorem Zw:yF P w K mg base "sure" 10 2 ["book","question"] Du:=by exists 4,KE,CA,CD;exists 3,53,WN,PM,PN,PQ,uF,FZ
theorem Sa:yF P w K mg base "maybe" 10 2 ["book","question"] WO:=by exists 4,CA,CD,KE;exists 3,54,MS,JU
theorem YD:yF P w K mg base "atom_with" 2 2 ["atom","values"] BK:=by exists 4,YC;exists 3,55,pH,qH,eQ,gV
theorem Bn:yF P w K mg base "asked_of" 3 2 ["question","answer"] GA:=by exists 4,YD;exists 3,56,uI,uG,uH,mR,cV
theorem gD:yF P w K mg base "mended_by_answer" 10 3 iQ xB:=by exists 4,KE,CD,Bn;exists 3,57,xA,jG,jH,jI,jK,aW,jF,wI
theorem LP:yF P w K mg base "first_of" 1 1 ["told"] uM:=by exists 3,58,uL,uK
theorem QP:yF P w K mg base "failing" 11 3 iQ CZ:=by exists 4,LP,gD;exists 3,59,CY,BL
theorem LQ:yF P w K mg base "standing" 11 3 iQ uP:=by exists 4,LP,gD;exists 3,60,uO,uN
theorem Ht:yF P w K mg base "odds" 11 3 iQ WP:=by exists 4,gD;exists 3,61,Dv,PR,PV
theorem LY:yF P w K mg base "_law_cell_at" 1 2 [Œ,ŕ] zX:=by exists 3,63,cW,jS,rR
theorem CF:yF P w K mg base "_law_digits" 1 1 ["_law_cell"] yQ:=by exists 3,64,aB,gX,gY,eR,vG,eT,eU,gW,cX,cY,cZ
theorem yR:yF P w K mg base "_law_take" 1 2 [ŏ,Ŗ] zL:=by exists 3,65,BM,aC,aD,EG
theorem IH:yF P w K mg base "_law_word" 2 1 [ŏ] aX:=by exists 4,yR;exists 3,66,BN,EH,EI,qI,EK,aF,eV
theorem YE:yF P w K mg base "_law_pool" 3 2 [ŏ,Ŗ] aY:=by exists 4,yR,IH;exists 3,67,LL,qK,qL,qN,aG,eW,eX,gZ,bA,bB
theorem QQ:yF P w K mg base "_law_tables" 2 1 [ŏ] qP:=by exists 4,yR;exists 3,68,qO,eY,eZ,fA,bC,dA,dB
theorem Bp:yF P w K mg base "_law_row" 2 3 [ŏ,Ő,ő] GB:=by exists 4,yR;exists 3,69,uQ,iI,iK,mT,dC
theorem YF:yF P w K mg base "_law_rows" 3 5 [Ŝ,"_law_extra",Ő,ő,Ś] BO:=by exists 4,CF,yR,Bp;exists 3,70,pI,qQ,qS,qT,qU,EL,bD,wR,gP,fB,xF
theorem YG:yF P w K mg base "_law_term" 2 3 LA BP:=by exists 4,yR;exists 3,71,bU,wU,aH
theorem RU:yF P w K mg base "_law_atoms" 3 5 [ŏ,Ő,Ŕ,ő,Ŗ] uT:=by exists 4,yR,YG;exists 3,72,uR,mU,mV,mW,dD,dZ,nA,dY,jT
theorem KF:yF P w K mg base "_law_names_in" 1 1 [œ] fC:=by exists 3,73,bE,kE,kG,kH,kD,gC,yK,xU
theorem YH:yF P w K mg base "_law_head" 2 3 [ŏ,œ,Ś] pN:=by exists 4,KF,yR;exists 3,74,pM,qV,qW,qX,qY,aI,fE
theorem RV:yF P w K mg base "_law_names" 3 1 [ŏ] uU:=by exists 4,IH,yR;exists 3,75,HS,dE,dF,mX,mY,mZ,jL,nB,jU,nE
theorem II:yF P w K mg base "_law_kept_rows" 1 2 [ŗ,Ő] nF:=by exists 3,76,jV,bO,bP,bQ,oA,wK,xI,xK
theorem LZ:yF P w K mg base "_law_strange" 1 1 [ő] oC:=by exists 3,77,oB,nG,rS,xY,wL
theorem RW:yF P w K mg base "_law_right" 12 3 [ŝ,ř,ś] uW:=by exists 4,Ht,QP,LQ;exists 3,78,uV,oE,oF,oG
theorem zBE(f)(fd)(F:Fun K "law" "law" (top 79) f fd):FnOk P w K mg base rE 13 f fd [Œ] (KR ⟨K,mg,P,w⟩ 1 Aj):=by exists 4,QQ,CF,LY,YE,RV,RU,yR,YH,II,YF,Ek,LZ,Zw,Sa,RW,Ht,LQ,QP;exists 0,Gn,WQ,WR,WS,WT,WU,WV,WW,WX,WY,PX,PY,PZ,Ai,HU,JW,JX,JY,DA,DB,DC,MT,JV
end
def all_mk{l:PySem.W.OpenLaw}{K:O0}(h:Heap)(e: ∀base,EV l.prog w K mg base)(a:mg "law"=some (.ref fa)): ∃j:FuncData,(∀ s  v ,BindsTo s j {[v],[]} [(Œ,v)])/\ ∀base:Heap,K.In base->base.Ns mainGlobals mg->FnOk l.prog w K mg base rE 13 fa j [Œ] (SU K Aj):=
 W4 ((e h).d.df (x:="law") (i:=79) (by decide+kernel)) a (λ_ _ _ _ _ _ s v=>.of_eq rfl) λbase f j F=>zBE (e base) f j F
def walk{l:PySem.W.OpenLaw}{K:Params->PySem.W.Frag}(y:l.most=some 63)(b:d.params.defaults=[])
  (hY: ∀ w  h ,YP w h->(K w.params).In h)
  (F: ∀ w  mg  j  h ,(K w.params).In h->h.Ns mainGlobals mg->mg d.name=some (.ref j)->
   ∃m:FuncData,(∀ s  u ,BindsTo s m {[u],[]} [(Œ,u)])/\ ∀base:Heap,(K w.params).In base->base.Ns mainGlobals mg->FnOk l.prog w (K w.params) mg base rE 13 j m [Œ] (SU (K w.params) Aj))
  (hN:(EN l.prog).all (λe=>((recsOf q).find? λd=>d.name==e.1).isSome)=true) (hno:EN l.prog=[]\/ ∀w:World,PySem.W.noTabs (K w.params)=true):
  PySem.W.WalkO q loose XP YP l.row.toRowW d [] (λf vs=>PySem.call f vs):=
 L2.walk_of (n:=63) (k:=13) (x:=Œ) (CX:=λ_=>rE) (sp:=λw=>SU (K w.params) Aj) y ↑15 b {rfl,by decide,by decide,rfl} hY F
  (λw H a c A B o=>(by have h:=(Ry c A);obtain⟨S,h⟩:=h;refine Z0 _ (zT (Fa (S7 B o) (rG c)) yA) rfl (λg _=>?_);rw[h];exact λv α' H' x w d=>NV d.1)) (λ_ _ _ _ _ z=>z) hN hno
end My
end M
end L2
namespace PySem.W.Fast
def tw14381160302818210090:=0
theorem te14381160302818210090:tw14381160302818210090=0:=rfl
def tw1979606750009421876:=0
theorem te1979606750009421876:tw1979606750009421876=0:=rfl
def tw17917911025831874592:=0
theorem te17917911025831874592:tw17917911025831874592=0:=rfl
def tw3113047815238768890:=0
theorem te3113047815238768890:tw3113047815238768890=0:=rfl
def tw16019181300808733896:=0
theorem te16019181300808733896:tw16019181300808733896=0:=rfl
def tw14404412784041582457:=0
theorem te14404412784041582457:tw14404412784041582457=0:=rfl
def tw12887852637090378996:=0
theorem te12887852637090378996:tw12887852637090378996=0:=rfl
def tw378908712075909127:=0
theorem te378908712075909127:tw378908712075909127=0:=rfl
def tw5083698042993289854:=0
theorem te5083698042993289854:tw5083698042993289854=0:=rfl
def tw16729976422142966168:=0
theorem te16729976422142966168:tw16729976422142966168=0:=rfl
def tw10116316441498750973:=0
theorem te10116316441498750973:tw10116316441498750973=0:=rfl
def tw5588727715735431087:=0
theorem te5588727715735431087:tw5588727715735431087=0:=rfl
def tw4255881093537890827:=0
theorem te4255881093537890827:tw4255881093537890827=0:=rfl
def tw2571151194772667707:=0
theorem te2571151194772667707:tw2571151194772667707=0:=rfl
def tw4046417280775415465:=0
theorem te4046417280775415465:tw4046417280775415465=0:=rfl
def tw10914797053942152756:=0
theorem te10914797053942152756:tw10914797053942152756=0:=rfl
def tw3254396651888057276:=0
theorem te3254396651888057276:tw3254396651888057276=0:=rfl
def tw3591340240228721225:=0
theorem te3591340240228721225:tw3591340240228721225=0:=rfl
def tw7438548524460546501:=0
theorem te7438548524460546501:tw7438548524460546501=0:=rfl
def tw818115714675346239:=0
theorem te818115714675346239:tw818115714675346239=0:=rfl
def tw13514723336987523767:=0
theorem te13514723336987523767:tw13514723336987523767=0:=rfl
def tw3945091644429864189:=0
theorem te3945091644429864189:tw3945091644429864189=0:=rfl
def tw13191092136271993757:=0
theorem te13191092136271993757:tw13191092136271993757=0:=rfl
def tw8641653389318792634:=0
theorem te8641653389318792634:tw8641653389318792634=0:=rfl
def tw533231224355386293:=0
theorem te533231224355386293:tw533231224355386293=0:=rfl
def tw12327921714699680591:=0
theorem te12327921714699680591:tw12327921714699680591=0:=rfl
def tw6462395611423352503:=0
theorem te6462395611423352503:tw6462395611423352503=0:=rfl
def tw11831932986512192629:=0
theorem te11831932986512192629:tw11831932986512192629=0:=rfl
def tw9786368200364266022:=0
theorem te9786368200364266022:tw9786368200364266022=0:=rfl
def tw6335887927025615293:=0
theorem te6335887927025615293:tw6335887927025615293=0:=rfl
def tw12129540796111171841:=0
theorem te12129540796111171841:tw12129540796111171841=0:=rfl
def tw9700868543841838325:=0
theorem te9700868543841838325:tw9700868543841838325=0:=rfl
def tw7058312138963524184:=0
theorem te7058312138963524184:tw7058312138963524184=0:=rfl
def tw10650849142337790423:=0
theorem te10650849142337790423:tw10650849142337790423=0:=rfl
def tw3524065577697288938:=0
theorem te3524065577697288938:tw3524065577697288938=0:=rfl
def tw3405887500325497154:=0
theorem te3405887500325497154:tw3405887500325497154=0:=rfl
def tw5546655943119363444:=0
theorem te5546655943119363444:tw5546655943119363444=0:=rfl
def tw610196042358661601:=0
theorem te610196042358661601:tw610196042358661601=0:=rfl
def tw8810133374955165382:=0
theorem te8810133374955165382:tw8810133374955165382=0:=rfl
def tw3767093218075594344:=0
theorem te3767093218075594344:tw3767093218075594344=0:=rfl
def tw5879240747435663134:=0
theorem te5879240747435663134:tw5879240747435663134=0:=rfl
def tw16168543543298111512:=0
theorem te16168543543298111512:tw16168543543298111512=0:=rfl
def tw16108719528677448661:=0
theorem te16108719528677448661:tw16108719528677448661=0:=rfl
end PySem.W.Fast
open PySem PySem.W PyProof.Rows
set_option maxRecDepth 100000 in
set_option maxHeartbeats 0 in
theorem PySem.Challenge.cw_mendsure_k45_good_books_holds : PySem.Challenge.rw_mendsure_k45_good_books.Holds := by
  w_on; o_law; k_head; (case hw => w_witness2)
  k_fill
  refine L2.M.My.walk (l := PySem.Challenge.rw_mendsure_k45_good_books) rfl rfl (fun w h Y => PySem.W.kIn_of Y) ?F ?hN ?hno
  case hN => kernel_rfl
  case hno => exact .inl rfl
  case F =>
    intro w mg b h KX G a
    refine' L2.M.My.all_mk h (fun _ => ?_) a
    constructor
    all_goals repeat' first | (exact trivial) | (exact {_, KX, G}) | (exact PySem.W.mg_none_of KX G (by k_is)) | (exact PySem.W.mg_of KX G (by k_is)) | (exact L2.M.def_mk (by k_is) (by k_is) (by k_is) (by k_is) KX G) | (exact L2.fun_mk (by k_is) (by k_is) (by k_is)) | (exact L2.M.xcl_mk (by k_is) (by k_is) rfl (by k_is) (by k_is) (by k_is) (by k_is) (by k_is) (by k_is) (by k_is) rfl) | (exact {by k_is, L2.M.nm_of (by k_is) (by rfl), by k_is, by k_is, by k_is, by k_is}) | (exact {by k_is, by k_is, by k_is, by k_is}) | (exact {by k_is, by k_is, by k_is}) | (show PySem.W.findIn _ _ _ = _; k_is) | (show PySem.W.nsIn _ _ _ = _; k_is) | (refine And.intro ?_ ?_) | (apply Exists.intro) | (k_is) | (decide)
