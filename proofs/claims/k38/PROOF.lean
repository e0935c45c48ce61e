import PyProof.Rows.All
import Wide.All
import OpenK.AllK
import Wide.FinOn
import Lean
import PyProof.EqAt
import PyProof.EqKinds
import PyProof.TupleCall
import PySem.Challenge.RW_mendsure_k38_texts_of_no_question
set_option Elab.async false
set_option linter.all false
set_option hygiene false
set_option compiler.extract_closed false
local macro_rules|`(↑0)=>`(s.heap.objs.size)
local macro_rules|`(↑1)=>`(Inv X pins σ H s)
local macro_rules|`(↑2)=>`(.tup (ts.map tbl))
local macro_rules|`(↑3)=>`(V8 (.loc q) (.int c) (.loc w) #[m,0] #[S.length+2] #[x,4] #[(a:Int),0] #[y,0])
local macro_rules|`(↑4)=>`(by decide)
local macro_rules|`(↑5)=>`(S.length)
local macro_rules|`(↑6)=>`(model X.prog X.w)
local macro_rules|`(↑7)=>`((e::es).length+([]:List Keyword).length+(if([]:List Keyword).isEmpty then 0 else 1)<30)
set_option maxRecDepth 100000
noncomputable section
set_option bootstrap.genMatcherCode false
open List (drop_length ext_getElem? filterMap_cons flatten_cons forIn_cons getD_eq_getElem?_getD getElem?_append_left getElem?_append_right getElem?_map getElem?_set_ne getElem?_set_self getElem_inj getElem_mem length_range lookup_cons map_drop map_take mem_append_left mem_of_getElem? mem_of_mem_drop mem_of_mem_take mem_range nodup_cons of_mem_zip range'_succ replicate_succ reverse_cons take_of_length_le zipIdx_cons zip_cons_cons)
open Bool (decide_and eq_false_iff)
open Nat (add_assoc le_of_lt le_succ log2_lt lt_irrefl lt_trans min_eq_left mod_lt sub_self zero_le)
abbrev à:=@Nat.le_refl
abbrev á:=@List.getElem?_append_left
abbrev â:=@List.getElem?_append_right
abbrev ã:=@PySem.Heap.lt_size
abbrev ä:=@PySem.Heap.get?_push_size
abbrev å:=@Option.some.inj
abbrev æ:=@Nat.lt_of_lt_of_le
abbrev ç:=@Nat.le_trans
abbrev è:=@List.map_cons
abbrev é:=@Nat.ne_of_lt
abbrev ê:=@List.mem_append
abbrev ë:=@List.length_nil
abbrev ì:=@List.all_eq_true
abbrev í:=@PySem.wpAny_loadPart_at
abbrev î:=@List.mem_append_right
abbrev ï:=@List.map_append
abbrev ð:=@PySem.wpAny_field
abbrev ñ:=@of_decide_eq_true
abbrev ò:=@Classical.choose_spec
abbrev ó:=@PySem.wpAny_mono
abbrev ô:=@List.mem_of_getElem?
abbrev õ:=@PySem.Heap.get?_update_other
abbrev ö:=@PySem.PassesOwn.never
abbrev ø:=@Bool.not_true
abbrev ù:=@PySem.Heap.size_push
abbrev ú:=@List.length_drop
abbrev û:=@Nat.ne_of_gt
abbrev ü:=@List.getElem?_map
abbrev ý:=@PySem.sizeLine_eq
abbrev þ:=@PySem.wpAny_setField_rec
abbrev ÿ:=@List.mem_append_left
abbrev Ā:=@List.getElem?_set_ne
abbrev ā:=@PySem.wpAny_callSpecial?_slot
abbrev Ă:=@Bool.not_false
abbrev ă:=@Array.getElem?_eq_some_iff
abbrev Ą:=@List.length_set
abbrev ą:=@PySem.wpAny_call_entry
abbrev Ć:=@PySem.wpAny_truthy_bool
abbrev ć:=@PySem.Heap.get?_update_self
abbrev Ĉ:=@List.contains_cons
abbrev ĉ:=@PySem.wpAny_holding
abbrev Ċ:=@List.getElem?_set_self
abbrev ċ:=@decide_eq_true_eq
abbrev Č:=@List.length_replicate
abbrev č:=@Option.isSome_iff_exists
abbrev Ď:=@PySem.Obj.data_mapFields
abbrev ď:=@PySem.codeAny_call_builtin
abbrev Đ:=@Array.length_toList
abbrev đ:=@PySem.codeAny_mono
abbrev Ē:=@List.map_map
abbrev ē:=@PySem.wpAny_standAt
abbrev Ĕ:=@decide_eq_decide
abbrev ĕ:=@List.filterMap_cons
abbrev Ė:=@List.getD_eq_getElem?_getD
abbrev ė:=@PySem.wpAny_seqItems
abbrev Ę:=@PyProof.Rows.slot_tuple_getitem
abbrev ę:=@List.take_of_length_le
abbrev Ě:=@List.all_cons
abbrev ě:=@List.replicate_succ
abbrev Ĝ:=@Nat.lt_succ_self
abbrev ĝ:=@Bool.false_and
abbrev Ğ:=@List.lookup_cons
abbrev ğ:=@PyProof.Rows.callWith_type1
abbrev Ġ:=@List.nil_append
abbrev ġ:=@PySem.Obj.isFreed_of_fields
abbrev Ģ:=@PySem.F.slot_tuple_iterator_next
abbrev ģ:=@Bool.true_and
abbrev Ĥ:=@Int.toNat_natCast
abbrev ĥ:=@PySem.wpAny_newObj_type
abbrev Ħ:=@List.getElem?_eq_none_iff
abbrev ħ:=@PySem.call_meets
abbrev Ĩ:=@List.drop_eq_getElem_cons
abbrev ĩ:=@PySem.wpAny_setField
abbrev Ī:=@List.getElem?_take_of_lt
abbrev ī:=@List.filterMap_cons_none
abbrev Ĭ:=@List.filterMap_cons_some
abbrev ĭ:=@List.length_range
abbrev Į:=@Bool.not_eq_true
abbrev į:=@PySem.wpAny_getItem_str_slice
abbrev İ:=@PySem.wpAny_execs_nil
abbrev ı:=@PySem.wpAny_Call_Name_kw
abbrev Ĳ:=@PySem.Code.quiet_builtin
abbrev ĳ:=@Nat.lt_irrefl
abbrev Ĵ:=PySem.Shared
abbrev ĵ:=PySem.Value
abbrev Ķ:=PySem.Program
def q0{n:Nat}:n<=n:=Nat.le_refl n
def xF0:¬(false=true):=Bool.false_ne_true
def t1M{A:Type}{b a:A}{l:List A}:a∈b::a::l:=.tail _ (.head _)
def t2M{A:Type}{b d a:A}{l:List A}:a∈b::d::a::l:=(.tail _ (.tail _ (.head _)))
def t3M{A:Type}{b e d a:A}{l:List A}:a∈b::e::d::a::l:=(.tail _ (.tail _ (.tail _ (.head _))))
def t4M{A:Type}{b f e d a:A}{l:List A}:a∈b::f::e::d::a::l:=(.tail _ (.tail _ (.tail _ (.tail _ (.head _)))))
def t5M{A:Type}{a e d b f x5:A}{l:List A}:x5∈a::e::d::b::f::x5::l:=(.tail _ (.tail _ (.tail _ (.tail _ (.tail _ (.head _))))))
def t6M{A:Type}{a e d b f x5 x6:A}{l:List A}:x6∈a::e::d::b::f::x5::x6::l:=(.tail _ (.tail _ (.tail _ (.tail _ (.tail _ (.tail _ (.head _)))))))
def t7M{A:Type}{a e d b f x5 x6 x7:A}{l:List A}:x7∈a::e::d::b::f::x5::x6::x7::l:=(.tail _ (.tail _ (.tail _ (.tail _ (.tail _ (.tail _ (.tail _ (.head _))))))))
def t8M{A:Type}{b f e d h x5 x6 x7 a:A}{l:List A}:a∈b::f::e::d::h::x5::x6::x7::a::l:=(.tail _ (.tail _ (.tail _ (.tail _ (.tail _ (.tail _ (.tail _ (.tail _ (.head _)))))))))
def t9M{A:Type}{b f e d h x5 x6 x7 i a:A}{l:List A}:a∈b::f::e::d::h::x5::x6::x7::i::a::l:=(.tail _ (.tail _ (.tail _ (.tail _ (.tail _ (.tail _ (.tail _ (.tail _ (.tail _ (.head _))))))))))
def t10M{A:Type}{b f e d h x5 x6 x7 i j a:A}{l:List A}:a∈b::f::e::d::h::x5::x6::x7::i::j::a::l:=(.tail _ (.tail _ (.tail _ (.tail _ (.tail _ (.tail _ (.tail _ (.tail _ (.tail _ (.tail _ (.head _)))))))))))
def t11M{A:Type}{d h f e i x5 x6 x7 j k b a:A}{l:List A}:a∈d::h::f::e::i::x5::x6::x7::j::k::b::a::l:=(.tail _ (.tail _ (.tail _ (.tail _ (.tail _ (.tail _ (.tail _ (.tail _ (.tail _ (.tail _ (.tail _ (.head _))))))))))))
abbrev dF0:=@decide_eq_false
abbrev dT0:=@decide_eq_true
abbrev iP:=@if_pos
abbrev iN0:=@if_neg
abbrev mC:=@List.mem_cons
abbrev lC0:=@List.length_cons
abbrev mO:=@List.mem_cons_of_mem
abbrev lM0:=@List.length_map
abbrev nM:=@List.not_mem_nil
abbrev mS0:=@List.mem_singleton
abbrev mF0:=@List.mem_cons_self
abbrev fT:=@Bool.false_eq_true
abbrev sA:=@List.size_toArray
abbrev lS:=@List.length_singleton
abbrev eL:=@Int.emod_lt_of_pos
abbrev eN:=@Int.emod_nonneg
abbrev aE:=@Bool.and_eq_true
abbrev iF:=@if_false
abbrev aN:=@List.append_nil
abbrev lA:=@List.length_append
abbrev gS:=@List.getElem?_eq_some_iff
abbrev gE:=@List.getElem?_eq_getElem
abbrev wB:=@PySem.wpAny_bind
abbrev wP:=@PySem.wpAny_pure
abbrev hP0:=@PySem.Heap.get?_push_of_some
abbrev mM0:=@List.mem_map
abbrev lT:=@List.length_take
abbrev aA:=@List.append_assoc
abbrev VP:=PySem.Value->PySem.Shared->Prop
abbrev P0:=PySem.W.Frag
abbrev O0:=List PySem.Expr
abbrev N0:=Option Int
abbrev M0:=List Bool
abbrev L1:=List (PySem.Addr×PySem.Obj)
abbrev K0:=PySem.Str->Option PySem.Value
abbrev C0:=List PySem.Str
abbrev B9:=List PySem.Addr
abbrev B0:=Array PySem.Value
abbrev A0:=List PySem.Value
abbrev Za:=List Int
abbrev Tk:=List (Int×Int)
abbrev Db:=List Nat
abbrev Ch:=List (List Nat)
set_option bootstrap.genMatcherCode true in
local macro_rules
 |`(#[0])=>`(by lia)
abbrev Ň:="_law_tables_here"
abbrev ň:="_law_cell"
abbrev ŉ:="_law_text_here"
abbrev Ŋ:="_law_words_here"
abbrev ŋ:="_law_script"
abbrev Ō:="_law_told_here"
abbrev ō:="_law_question_here"
abbrev Ŏ:="_law_pool_here"
abbrev ŏ:="_law_pieces"
abbrev Ő:="_law_k"
abbrev ő:="_law_prime"
abbrev Œ:="_law_number"
abbrev œ:="_law_due"
abbrev Ŕ:="_law_wide"
abbrev ŕ:="_law_piece"
abbrev Ŗ:="_law_mix"
abbrev ŗ:="_law_place"
abbrev Ř:="_law_kinds"
abbrev ř:="_law_refused"
abbrev Ś:="_law_many"
abbrev ś:="_law_is_number"
abbrev Ŝ:="_law_cells"
abbrev ŝ:="_law_which"
abbrev Ş:="_law_question"
abbrev ş:="_law_cell_at"
abbrev Š:="_law_is_name"
abbrev š:="_law_term_of"
abbrev Ţ:="_law_tables"
abbrev ţ:="_law_terms"
abbrev Ť:="_law_e"
abbrev ť:="_law_alike"
abbrev Ŧ:="_law_words"
abbrev ŧ:="_law_wrong"
abbrev Ũ:="_law_right"
abbrev ũ:="_law_most"
abbrev Ū:="_law_name"
abbrev ū:="_law_pool"
abbrev Ŭ:="_law_atom"
abbrev ŭ:="_law_word"
abbrev Ů:="_law_text"
abbrev ů:="_law_bent"
abbrev Ű:="_law_told"
abbrev ű:="_law_letters"
abbrev Ų:="_law_at"
abbrev ų:="_law_atoms"
abbrev Ŵ:="_law_thing"
abbrev ŵ:="_law_kinds_here"
abbrev Ŷ:="_law_head"
abbrev ŷ:="_law_kind"
abbrev Ÿ:="_law_t"
namespace L2
open PySem PySem.Spec PyProof.Rows
abbrev Key:=Sum Int Str
noncomputable def HG:Key->ĵ->Bool
 |.inl k,v=>Value.isInt k v
 |.inr x,v=>Value.isStrOf x v
noncomputable def P6(w:World):Key->Int
 |.inl k=>hashInt k
 |.inr x=>hashStr w x
def xK: ∀{k}{v},HG k v=true->(∃i t,k=Sum.inl i/\v=Value.int i t)\/(∃x t,k=Sum.inr x/\v=Value.str x t)
 |.inl i,v,h=>by obtain⟨t,e⟩:=Value.isInt_shape h;exact .inl ⟨i,t,rfl,e⟩
 |.inr x,v,h=>by obtain⟨t,e⟩:=Value.isStrOf_shape h;exact .inr ⟨x,t,rfl,e⟩
def Hs(i)(t):HG (.inl i) (.int i t)=true:=by simp[HG,Value.isInt]
def Ht(x)(t):HG (.inr x) (.str x t)=true:=by simp[HG,Value.isStrOf]
def Xz(a b):decide ((Sum.inl a:Key)=Sum.inl b)=(a==b):=by
 by_cases e:a=b
 .subst e;simp
 .have h: ¬(Sum.inl a:Key)=Sum.inl b:=λq=>e (Sum.inl.inj q);rw[dF0 h];exact(beq_eq_false_iff_ne.mpr e).symm
def Ya(a b):decide ((Sum.inr a:Key)=Sum.inr b)=decide (a=b):=by
 by_cases e:a=b
 .subst e;simp
 .have h: ¬(Sum.inr a:Key)=Sum.inr b:=λq=>e (Sum.inr.inj q);rw[dF0 h,dF0 e]
def Yb(a)(b):decide ((Sum.inl a:Key)=Sum.inr b)=false:=dF0 (λq=>nomatch q)
def Yc(a)(b):decide ((Sum.inr a:Key)=Sum.inl b)=false:=dF0 (λq=>nomatch q)
def dB(prog)(w):PySem.KeyKind prog w Key where
 is:=HG
 hash:=P6 w
 inj:=λv a b ha hb=>by
  rcases xK ha with⟨i,t,rfl,rfl⟩|⟨x,t,rfl,rfl⟩
  .rcases xK hb with⟨j,u,rfl,e⟩|⟨y,u,rfl,e⟩
   .injection e with e1 _;rw[e1]
   .exact nomatch e
  .rcases xK hb with⟨j,u,rfl,e⟩|⟨y,u,rfl,e⟩
   .exact nomatch e
   .injection e with e1 _;rw[e1]
 byValue:=λk v h=>by rcases xK h with⟨i,t,rfl,rfl⟩|⟨x,t,rfl,rfl⟩<;>rfl
 pyHash:=λhv h=>by
  rcases xK hv with⟨i,t,rfl,rfl⟩|⟨x,t,rfl,rfl⟩
  .exact wpAny_pyHash_int h
  .exact wpAny_pyHash_str h
 eqBool:=λhu hv h=>by
  rcases xK hu with⟨i,t,rfl,rfl⟩|⟨x,t,rfl,rfl⟩
  .rcases xK hv with⟨j,u,rfl,rfl⟩|⟨y,u,rfl,rfl⟩
   .rw[Xz]at h;exact wpAny_eqBool_int h
   .rw[Yb]at h;exact SeqAt.EqAt.int_str i t y u _ _ _ _ h
  .rcases xK hv with⟨j,u,rfl,rfl⟩|⟨y,u,rfl,rfl⟩
   .rw[Yc]at h;exact SeqAt.EqAt.str_int x t j u _ _ _ _ h
   .rw[Ya]at h;exact wpAny_eqBool_str h
 «strs»:=λk x t v h=>by
  rcases xK h with⟨i,u,rfl,e⟩|⟨y,u,rfl,e⟩
  .exact nomatch e
  .injection e with e1 _
   subst e1;cases v<;>rfl
def XY(prog)(w)(i)(t):(dB prog w).is (.inl i) (.int i t)=true:=Hs i t
def BN(prog)(w)(x)(t):(dB prog w).is (.inr x) (.str x t)=true:=Ht x t
inductive V where
 |non|bl (b:Bool)|int (i:Int)|str (x:Str)|byt (b:Array UInt8)|flt (b:UInt64)|ref (a:Addr)|ty (n:String)
 deriving DecidableEq
def RelV:V->ĵ->Prop
 |.non,u=>u=Value.none
 |.bl b,u=>u=Value.bool b
 |.int i,u=> ∃t,u=Value.int i t
 |.str x,u=> ∃t,u=Value.str x t
 |.byt b,u=> ∃t,u=Value.bytes b t
 |.flt b,u=> ∃t,u=Value.float b t
 |.ref a,u=>u=Value.ref a
 |.ty n,u=>u=Value.type n
abbrev Vals:List V->List Value->Prop:=Paired RelV
def Vals.length(r:Vals xs us):xs.length=us.length:=Paired.length r
theorem Vals.get: ∀{xs}{a}{i:Nat}{x},Vals xs a->xs[i]? =some x-> ∃u,a[i]? =some u/\RelV x u
 |_,_,_,_,.nil,e=>by simp at e
 |_,_,0,_,.cons r _,e=>by simp at e;subst e;exact⟨_,rfl,r⟩
 |_,_,i+1,x,.cons _ t,e=>by obtain⟨u,b,d⟩:=Vals.get t (by simpa using e);exact⟨u,by simpa using b,d⟩
theorem Vals.set(r:RelV x u): ∀{xs}{a} i ,Vals xs a->Vals (xs.set i x) (a.set i u)
 |_,_,_,.nil=>.nil
 |_,_,0,.cons _ t=>.cons r t
 |_,_,i+1,.cons q t=>.cons q (Vals.set r i t)
theorem Vals.append: ∀{xs b}{a ws},Vals xs a->Vals b ws->Vals (xs++b) (a++ws)
 |_,_,_,_,.nil,s=>s
 |_,_,_,_,.cons r t,s=>.cons r (Vals.append t s)
theorem Vals.take: ∀{xs}{a} n ,Vals xs a->Vals (xs.take n) (a.take n)
 |_,_,0,_=>.nil
 |_,_,_+1,.nil=>.nil
 |_,_,n+1,.cons r t=>.cons r (Vals.take n t)
theorem Vals.drop: ∀{xs}{a} n ,Vals xs a->Vals (xs.drop n) (a.drop n)
 |_,_,0,r=>r
 |_,_,_+1,.nil=>.nil
 |_,_,n+1,.cons _ t=>Vals.drop n t
theorem Vals.none_of: ∀{xs}{a}{i:Nat},Vals xs a->xs[i]? =none->a[i]? =none:=λ{xs a i} r e=>by have b:=r.length;have d:=Ħ.mp e;exact Ħ.mpr #[0]
def P9:Option V->Option ĵ->Prop
 |some v,some u=>RelV v u
 |none,none=>True
 |_,_=>False
def KV{a:Type}:List (a×V)->List (a×ĵ)->Prop:=Paired λ(p:a×V) (q:a×ĵ)=>p.1=q.1/\RelV p.2 q.2
noncomputable def kV:Key->V
 |.inl i=>.int i
 |.inr x=>.str x
inductive HO where
 |lst (xs:List V)
 |tup (xs:List V)
 |dK (kvs:List (Key×V))|dT (kvs:List (List Key×V))
 |set (S:Int->Bool) (n:Nat)
 |ins (C dx:Addr) (fs:List (Str×V))
 |own (x:Addr)
 |xd (fs:List (Str×V))
 |met (f x:Addr)
 |rng (lo hi:Int)
 |frz (o:Obj) (u:HO)
 |tbl (ps:B0)
 |ext (φ:Heap->Prop)
abbrev Hp:=Addr->Option HO
noncomputable def jL(H:Hp)(a:Addr)(o:HO):Hp:=λb=>if b=a then some o else H b
def zV:jL H a o a=some o:=by unfold jL;rw[iP rfl]
def zP(h:b≠a):jL H a o b=H b:=by unfold jL;rw[iN0 h]
def zX{H:Hp}(h:H a=some o)(h':H b=none):a≠b:=by intro e;subst e;rw[h]at h';cases h'
section
variable(P:Ķ)(w:World)
def ObjOk(H:Hp)(h:Heap)(a:Addr):HO->Prop
 |.lst xs=>xs.length<=sizeLine/\ ∃(b:A0)(n:Nat),Vals xs b/\h.get? a=some {cls:=.type "list",data:=.seq b.toArray n}
 |.tup xs=>xs.length<=sizeLine/\ ∃b:List ĵ,Vals xs b/\IsTup h a b.toArray
 |.dK kvs=>kvs.length<=sizeLine/\(a==sysModules)=false/\ ∃j,KV kvs j/\h.DictOf (dB P w) a j
 |.dT kvs=>kvs.length<=sizeLine/\(a==sysModules)=false/\ ∃xs:List (List Key×Addr×ĵ),
   Paired (λ(p:List Key×V) (q:List Key×Addr×ĵ)=>p.1=q.1/\H q.2.1=some (.tup (p.1.map kV))/\RelV p.2 q.2.2) kvs xs/\
   ∃o es k,h.get? a=some o/\o.ExactDict/\o.data=.dict es k/\es.toList=xs.map (entryOfKey (tupleKind (dB P w)))/\(xs.map (·.1)).Nodup
 |.set S n=>h.SetOf (intKind P w) a S n
 |.ins C dx fs=>H dx=some (.own a)/\fs.length<=1000/\dx≠a/\h.get? a=some (PySem.W.instObj C dx)/\
   ∃d,h.Ns1 dx d/\(∀f,P9 (fs.lookup f) (d f))/\PySem.Within d (fs.map (·.1))
 |.own _=> ∃o,h.get? a=some o
 |.xd fs=> ∃d,h.Ns1 a d/\ ∀f,P9 (fs.lookup f) (d f)
 |.rng lo hi=> ∃t u v,h.get? a=some {cls:=.type "range",data:=.fields #[.int lo t,.int hi u,.int 1 v]}
 |.frz o u=>h.get? a=some o/\ObjOk H h a u
 |.tbl ps=>h.get? a=some {cls:=.none,data:=.fields ps}
 |.met f x=>h.get? a=some (PySem.W.methodObj (.ref f) (.ref x))
 |.ext φ=>φ h/\(∃o,h.get? a=some o)/\ ∀e i:Heap,φ e->(∀o,e.get? a=some o->i.get? a=some o)->φ i
def HOk(H:Hp)(h:Heap):Prop:= ∀a o,H a=some o->ObjOk P w H h a o
end
section
variable{a:Addr}{o:HO}
def ObjOk.lt(x:ObjOk P w H h a o):a<h.objs.size:=by
 cases o with
 |lst xs=>obtain⟨_,_,_,_,e⟩:=x;exact ã e
 |tup xs=>obtain⟨_,_,_,p⟩:=x;exact p.lt
 |dK kvs=>obtain⟨_,_,_,_,o,_,_,e,_⟩:=x;exact ã e
 |dT kvs=>obtain⟨_,_,_,_,o,_,_,e,_⟩:=x;exact ã e
 |set S n=>obtain⟨o,_,_,_,e,_⟩:=x;exact ã e
 |ins C dx fs=>obtain⟨_,_,_,e,_⟩:=x;exact ã e
 |own y=>obtain⟨_,e⟩:=x;exact ã e
 |xd fs=>obtain⟨_,⟨_,_,_,e,_⟩,_⟩:=x;exact ã e
 |rng lo hi=>obtain⟨_,_,_,e⟩:=x;exact ã e
 |frz ob u=>obtain⟨e,_⟩:=x;exact ã e
 |tbl ps=>exact ã x
 |met f y=>exact ã x
 |ext φ=>obtain⟨_,⟨_,e⟩,_⟩:=x;exact ã e
theorem Paired.mapP: ∀{l₁}{d:List β},Paired F l₁ d->(∀a b,F a b->G a b)->Paired G l₁ d
 |_,_,.nil,_=>.nil
 |_,_,.cons r t,f=>.cons (f _ _ r) (Paired.mapP t f)
def ObjOk.stay(x:ObjOk P w H h a o)(k: ∀b u,(b=a\/H b=some (.own a))->h.get? b=some u->h'.get? b=some u)
  (ho: ∀b,H b=some (.own a)->H' b=some (.own a)) (ht: ∀b xs,H b=some (.tup xs)->H' b=some (.tup xs)):ObjOk P w H' h' a o:=by
 induction o with
 |lst xs=>obtain⟨z,m,n,r,e⟩:=x;exact⟨z,m,n,r,k _ _ (.inl rfl) e⟩
 |tup xs=>obtain⟨z,m,r,i,e,c⟩:=x;exact⟨z,m,r,i,k _ _ (.inl rfl) e,c⟩
 |dK kvs=>obtain⟨z,y,D,r,i,es,j,e,c⟩:=x;exact⟨z,y,D,r,i,es,j,k _ _ (.inl rfl) e,c⟩
 |dT kvs=>
  obtain⟨z,y,xs,r,i,es,j,e,c⟩:=x;exact⟨z,y,xs,Paired.mapP r λp q z=>⟨z.1,ht _ _ z.2.1,z.2.2⟩,i,es,j,k _ _ (.inl rfl) e,c⟩
 |set S n=>obtain⟨i,es,j,t,e,c⟩:=x;exact⟨i,es,j,t,k _ _ (.inl rfl) e,c⟩
 |ins C dx fs=>
  obtain⟨d,z,ne,e,A,⟨s,es,j,B,c⟩,r⟩:=x;exact⟨ho _ d,z,ne,k _ _ (.inl rfl) e,A,⟨s,es,j,k _ _ (.inr d) B,c⟩,r⟩
 |own y=>obtain⟨i,e⟩:=x;exact⟨i,k _ _ (.inl rfl) e⟩
 |xd fs=>obtain⟨A,⟨s,es,j,e,c⟩,r⟩:=x;exact⟨A,⟨s,es,j,k _ _ (.inl rfl) e,c⟩,r⟩
 |rng lo hi=>obtain⟨t,u,v,e⟩:=x;exact⟨t,u,v,k _ _ (.inl rfl) e⟩
 |frz i u ih=>obtain⟨e,q⟩:=x;exact⟨k _ _ (.inl rfl) e,ih q⟩
 |tbl ps=>
  have e:=x;exact k a _ (.inl rfl) e
 |met f y=>
  have e:h.get? a=some _:=x;show h'.get? a=some _;exact k a _ (.inl rfl) e
 |ext φ=>obtain⟨p,⟨o,e⟩,st⟩:=x;exact⟨st _ _ p λo q=>k _ _ (.inl rfl) q,⟨o,k _ _ (.inl rfl) e⟩,st⟩
def HOk.lt(x:HOk P w H h)(e:H a=some o):a<h.objs.size:=(x a o e).lt
def HOk.fresh(x:HOk P w H h)(e:h.objs.size<=a):H a=none:=by
 cases q:H a with
 |none=>rfl
 |some u=>exact absurd (æ (x.lt q) e) (ĳ _)
def HOk.kept(x:HOk P w H h)(k: ∀b u,h.get? b=some u->h'.get? b=some u):HOk P w H h':=λa o e=>
 (x a o e).stay (λb u _ q=>k b u q) (λ_ q=>q) λ_ _ q=>q
def HOk.laid(x:HOk P w H h)(k: ∀b u,h.get? b=some u->h'.get? b=some u)(i:h.objs.size<=a)(new:ObjOk P w (jL H a o) h' a o):HOk P w (jL H a o) h':=λb u e=>by
 have f:=x.fresh i;by_cases d:b=a
 .subst d;rw[zV]at e;cases e;exact new
 .rw[zP d]at e;exact(x b u e).stay (λc v _ q=>k c v q) (λc q=>by rw[zP (zX q f)];exact q) λc xs q=>by rw[zP (zX q f)];exact q
end
def Rd(H:Hp)(a:Addr)(u:HO):Prop:=H a=some u\/ ∃o,H a=some (.frz o u)
def Rd.ok(r:Rd H a u)(x:HOk P w H h):ObjOk P w H h a u:=by
 rcases r with r|⟨o,r⟩
 .exact x a u r
 .obtain⟨_,q⟩:=x a _ r;exact q
def O2:Option HO->Prop
 |some (.lst _)=>True
 |some (.dK _)=>True
 |some (.dT _)=>True
 |some (.set _ _)=>True
 |some (.ins _ _ _)=>True
 |some (.ext _)=>True
 |_=>False
section
theorem HOk.write(ok:HOk P w H h)(j:O2 (H x))(p:e=x\/H e=some (.own x))(k: ∀b u,b≠e->h.get? b=some u->h'.get? b=some u)(n: ∃u,h'.get? e=some u)
  (new:ObjOk P w (jL H x o') h' x o'):HOk P w (jL H x o') h':=λb u q=>by
 have d: ∀c y,H c=some (.own y)->c≠x:=λc y r z=>by subst z;rw[r]at j;exact j
 have f: ∀c xs,H c=some (.tup xs)->c≠x:=λc xs r z=>by subst z;rw[r]at j;exact j
 by_cases m:b=x
 .subst m;rw[zV]at q;cases q;exact new
 .rw[zP m]at q;by_cases a:b=e
  .have o:H b=some (.own x):=by
    rcases p with z|z
    .exact absurd (a.trans z) m
    .rw[a];exact z
   rw[q]at o;cases o;obtain⟨v,s⟩:=n;exact⟨v,by rw[a];exact s⟩
  .refine(ok b u q).stay (λc v i r=>k c v ?_ r) (λc r=>by rw[zP (d c b r)];exact r) λc xs r=>by rw[zP (f c xs r)];exact r
   rcases i with rfl|i
   .exact a
   .rintro rfl;rcases p with z|z
    .exact d c b i z
    .rw[i]at z;cases z;exact m rfl
end
structure Un(fs ex:B9)(H H':Hp)(h h':Heap):Prop where
 keep: ∀b o,h.get? b=some o->H b=none->b∉fs->b∉ex->h'.get? b=some o
 slot: ∀b o,h.get? b=some o->H b=none->b∈fs->b∉ex-> ∃sl,h'.get? b=some {o with slots:=sl}
 free: ∀b o,h.get? b=some o->H b=none->b∉ex->H' b=none
 there: ∀b o,h.get? b=some o->b∉ex-> ∃o',h'.get? b=some o'
 tups: ∀b xs,H b=some (.tup xs)->H' b=some (.tup xs)
 frzs: ∀b o u,H b=some (.frz o u)->H' b=some (.frz o u)
 tbls: ∀b ps,H b=some (.tbl ps)-> ∃more,H' b=some (.tbl (ps++more))
section
variable{h:Heap}{a:Addr}
def Un.any(u:Un fs ex H H1 h h1)(q:h.get? b=some ob)(n:H b=none)(d:b∉ex): ∃e,h1.get? b=some {ob with slots:=e}:=by
 by_cases a:b∈fs
 .exact u.slot b ob q n a d
 .exact⟨_,u.keep b ob q n a d⟩
def Un.kept(k: ∀b u,h.get? b=some u->h'.get? b=some u):Un fs ex H H h h':=
 ⟨λb a q _ _ _=>k b a q,λb a q _ _ _=>⟨_,k b a q⟩,λ_ _ _ n _=>n,λb a q _=>⟨a,k b a q⟩,λ_ _ q=>q,λ_ _ _ q=>q,λ_ ps q=>⟨#[],by rw[q];simp⟩⟩
def Un.refl:Un fs ex H H h h:=Un.kept λ_ _ q=>q
def Un.laid(k: ∀b u,h.get? b=some u->h'.get? b=some u)(hp:h.objs.size<=a)(hn:H a=none):Un fs ex H (jL H a o) h h' where
 keep:=λb u q _ _ _=>k b u q
 slot:=λb u q _ _ _=>⟨_,k b u q⟩
 free:=λb u q n _=>by rw[zP (é (æ (ã q) hp))];exact n
 there:=λb u q _=>⟨u,k b u q⟩
 tups:=λb xs q=>by rw[zP (zX q hn)];exact q
 frzs:=λb u xs q=>by rw[zP (zX q hn)];exact q
 tbls:=λb ps q=>⟨#[],by rw[zP (zX q hn),q];simp⟩
def Un.write(d:O2 (H x))(p:e=x\/H e=some (.own x))(k: ∀b u,b≠e->h.get? b=some u->h'.get? b=some u)(f: ∃u,h'.get? e=some u):Un fs ex H (jL H x o) h h':=by
 have j: ∀b,H b=none->b≠x:=λb n z=>by subst z;rw[n]at d;exact d
 have m: ∀b,H b=none->b≠e:=λb n z=>by
  subst z;rcases p with r|r
  .exact j b n r
  .rw[n]at r;cases r
 have i: ∀b u,H b=some u-> ¬O2 (some u)->b≠x:=λb u q nm z=>by subst z;rw[q]at d;exact nm d
 refine⟨λb u q n _ _=>k b u (m b n) q,λb u q n _ _=>⟨_,k b u (m b n) q⟩,λb u q n _=>by rw[zP (j b n)];exact n,λb u q _=>?_,
  λb xs q=>by rw[zP (i b _ q λz=>z)];exact q,λb u xs q=>by rw[zP (i b _ q λz=>z)];exact q,λb ps q=>⟨#[],by rw[zP (i b _ q λz=>z),q];simp⟩⟩
 by_cases a:b=e
 .subst a;exact f
 .exact⟨u,k b u a q⟩
end
noncomputable def trk(h:Heap)(H:Hp):List Addr:=(List.range h.objs.size).filter λa=>(H a).isSome
def Hu(h:Heap)(H:Hp):Heap:=PySem.W.hideAll h (trk h H)
def Hw(h)(H):(Hu h H).objs.size=h.objs.size:=PySem.W.hideAll_size _ _
def Ko(e:h.get? b=some o)(n:H b=none):(Hu h H).get? b=some o:=
 PySem.W.hideAll_get _ e λa=>by have q:=(List.mem_filter.mp a).2;rw[n]at q;simp at q
def Rf(e:(Hu h H).get? b=some o):h.get? b=some o/\H b=none:=by
 have a:=PySem.W.of_hideAll _ e;refine⟨a,?_⟩
 cases q:H b with
 |none=>rfl
 |some x=>
  have d:b∈trk h H:=List.mem_filter.mpr ⟨mem_range.mpr (ã a),by simp[q]⟩;have z:(Hu h H).get? b=none:=PySem.W.hideAll_none _ d;rw[z]at e;cases e
noncomputable def Rg(g h:Heap)(L:Addr):List (Addr×Obj):=(List.range h.objs.size).filterMap λa=>if a=L\/(g.get? a).isSome=true then none else(h.get? a).map λo=>(a,o)
def rest(g h:Heap)(L d:Addr):List (Addr×Obj):=(Rg g h L).filter λp=>decide (p.1≠d)
structure Mod(K:P0)(mg:K0)(base:Heap):Prop where
 kin:K.In base
 glob:base.Ns mainGlobals mg
 blt: ∃mb,base.Ns builtinsNs mb/\ ∀x:Str,x≠"__name__"->mb x=bootBuiltins x
 nolimit:base.NoLimit
structure Cx where
 prog:Ķ
 w:World
 K:PySem.W.Frag
 mg:Str->Option ĵ
 base:Heap
 A:Around
 N:List Str
 s₀:Ĵ
 H₀:Hp
 env:Env
 outer:List Env
 stack:List Env
 ex:List Addr
 fn:Str->Bool
 calm:Bool
 pn:List (Addr×Obj)
 xe:VP
noncomputable def LB(l:List Env):List Addr:=l.filterMap (·.frame)
abbrev Cx.fs(X:Cx):List Addr:=LB X.outer
def Rh(a:Scope)(x:Str):Prop:=a.names.lookup x=some .local\/a.names.lookup x=some .cell\/a.names.lookup x=some .free
def Loc(a:Scope)(x:Str):Prop:=a.names.lookup x=some .local\/a.names.lookup x=some .cell
def Look(env:Env)(h:Heap)(m:K0)(x:Str)(u:ĵ):Prop:=
 (env.kindOf x=some .local/\m x=some u)\/((env.kindOf x=some .cell\/env.kindOf x=some .free)/\ ∃c,env.cells.lookup x=some c/\h.IsCell c (some u))
structure Cx.Ok(X:Cx):Prop where
 mod:Mod X.K X.mg X.base
 kind:X.env.scope.kind=.function
 glob:X.env.globals=mainGlobals
 blt:X.env.builtins=builtinsNs
 above:X.s₀.heap.objs.size<=X.env.locals
 inj: ∀x y c,X.env.cells.lookup x=some c->X.env.cells.lookup y=some c->x=y
 has: ∀x,(X.env.kindOf x=some .cell\/X.env.kindOf x=some .free)-> ∃c,X.env.cells.lookup x=some c
 cab: ∀x c,X.fn x=true->X.env.cells.lookup x=some c->X.s₀.heap.objs.size<=c
 hd:X.calm=true->X.A.handled=none
 frames:X.A.frames=some X.stack
 stk:X.stack=X.outer\/(X.stack=X.env::X.outer/\X.env.frame=some X.env.locals)
 exf: ∀b∈X.ex,b≠X.env.locals/\ ∀x c,X.env.cells.lookup x=some c->c≠b
 bs: ∀b o,X.base.get? b=some o->X.s₀.heap.get? b=some o/\X.H₀ b=none
 bsz:X.base.objs.size<=X.s₀.heap.objs.size
 noex: ∀b o,X.base.get? b=some o->b∉X.ex
 exfs: ∀b∈X.ex,b∉X.fs
 funs:X.s₀.heap.FunFrames X.base X.outer
 frf: ∀b∈X.fs,X.H₀ b=none
structure Inv(X:Cx)(pins:L1)(σ:List (Option V))(H:Hp)(s:Ĵ):Prop where
 ok:X.Ok
 os:s.os=X.s₀.os
 bare:AllBare s.gens
 base:Un X.fs X.ex X.H₀ H X.s₀.heap s.heap
 loc: ∃m,s.heap.Ns X.env.locals m/\ ∀(i:Nat)(x:Str)(v:V),X.N[i]? =some x->σ[i]? =some (some v)->Rh X.env.scope x-> ∃u,RelV v u/\Look X.env s.heap m x u
 cell: ∀x c,X.env.cells.lookup x=some c-> ∃v,s.heap.IsCell c v
 free:H X.env.locals=none
 freeC: ∀x c,X.env.cells.lookup x=some c->H c=none
 pin: ∀p∈X.pn++pins,s.heap.get? p.1=some p.2/\H p.1=none/\p.1≠X.env.locals/\p.1∉X.fs/\ ∀v,p.2.data≠.cell v
 hok:HOk X.prog X.w H s.heap
 len:σ.length=X.N.length
section
variable{X:Cx}{h':Heap}
def Cx.Ok.nofr(ok:X.Ok)(e:X.base.get? b=some o):b∉X.fs:=λa=>by have:=(ok.funs.mem a).1;rw[e]at this;cases this
def Inv.bs(I:↑1): ∀b o,X.base.get? b=some o->s.heap.get? b=some o/\H b=none:=λb o e=>
 ⟨I.base.keep b o (I.ok.bs b o e).1 (I.ok.bs b o e).2 (I.ok.nofr e) (I.ok.noex b o e),I.base.free b o (I.ok.bs b o e).1 (I.ok.bs b o e).2 (I.ok.noex b o e)⟩
def Inv.bk(I:↑1): ∀b o,X.base.get? b=some o->s.heap.get? b=some o:=λb o e=>(I.bs b o e).1
def Inv.mod(I:↑1):Mod X.K X.mg X.base:=I.ok.mod
def Inv.kIn(I:↑1):X.K.In s.heap:=I.ok.mod.kin.keeps I.bk
def Inv.lt(I:↑1):X.env.locals<s.heap.objs.size:=let ⟨_,a,_⟩:=I.loc;a.lt
def Inv.sz(I:↑1):X.s₀.heap.objs.size<=s.heap.objs.size:=ç I.ok.above (le_of_lt I.lt)
def Inv.nofs(I:↑1){a:Addr}(h:↑0<=a):a∉X.fs:=λb=>by obtain⟨_,o,d,_⟩:=I.ok.funs.mem b;exact absurd (æ (ã d) (ç I.sz h)) (ĳ _)
def Inv.cne(I:↑1): ∀x c,X.env.cells.lookup x=some c->c≠X.env.locals:=λx c e z=>by obtain⟨v,o,f,d⟩:=I.cell x c e;obtain⟨m,⟨i,es,h,a,b,_⟩,_⟩:=I.loc;rw[z,a]at f;cases f;rw[b]at d;cases d
def Inv.funs(I:↑1):s.heap.FunFrames X.base X.outer:=by
 have all: ∀(l:List Env),(∀b∈LB l,b∈X.fs)->X.s₀.heap.FunFrames X.base l->s.heap.FunFrames X.base l:=by
  intro l
  induction l with
  |nil=>intro _ _;trivial
  |cons env r ih=>
   intro hs n;obtain⟨h,⟨L,o,a,i,k,m⟩,j⟩:=n;have d:=hs L (by unfold LB;rw[ĕ,a];exact mF0);obtain⟨p,e⟩:=I.base.slot L o k (I.ok.frf L d) d λz=>I.ok.exfs L z d;exact⟨h,⟨L,_,a,i,e,m⟩,ih (λb f=>hs b (by unfold LB;rw[ĕ,a];exact mO _ f)) j⟩
 exact all X.outer (λ_ f=>f) I.ok.funs
def Inv.stack(I:↑1):s.heap.FunFrames X.base X.stack:=by
 rcases I.ok.stk with e|⟨e,hf⟩
 .rw[e];exact I.funs
 .rw[e];obtain⟨m,a,_⟩:=I.loc;refine .cons (by rw[I.ok.kind];decide) hf a ?_ I.funs;exact Heap.get?_none_of_le (ç I.ok.bsz I.ok.above)
def Inv.stkSub(I:↑1): ∀b∈LB X.stack,b∈X.env.locals::X.fs:=λb a=>by
 rcases I.ok.stk with e|⟨e,hf⟩
 .rw[e]at a;exact mO _ a
 .rw[e]at a;unfold LB at a;rw[ĕ,hf]at a;exact a
def Inv.stkFree(I:↑1): ∀b∈LB X.stack,H b=none:=λb a=>by
 rcases mC.mp (I.stkSub b a)with e|a
 .rw[e];exact I.free
 .obtain⟨_,o,d,_⟩:=I.ok.funs.mem a;exact I.base.free b o d (I.ok.frf b a) λz=>I.ok.exfs b z a
def Inv.step{ch:B9}(I:↑1)
  (hch: ∀b∈ch,(b∈X.ex\/X.s₀.heap.objs.size<=b)/\b≠X.env.locals/\(∀x c,X.env.cells.lookup x=some c->c≠b)/\ ∀p∈X.pn++pins,p.1≠b)
  (keep: ∀b o,b≠X.env.locals->b∉X.fs->b∉ch->s.heap.get? b=some o->H b=none->h'.get? b=some o)
  (slot: ∀b o,b≠X.env.locals->b∈X.fs->b∉ch->s.heap.get? b=some o->H b=none-> ∃G,h'.get? b=some {o with slots:=G}) (free: ∀b o,b∉ch->s.heap.get? b=some o->H b=none->H' b=none)
  (there: ∀b o,b∉ch->s.heap.get? b=some o-> ∃B,h'.get? b=some B)
  (tups: ∀b xs,H b=some (.tup xs)->H' b=some (.tup xs)) (frzs: ∀b o u,H b=some (.frz o u)->H' b=some (.frz o u)) (tbls: ∀b ps,H b=some (.tbl ps)-> ∃C,H' b=some (.tbl (ps++C)))
  (ns: ∀m,s.heap.Ns X.env.locals m->h'.Ns X.env.locals m) (hok:HOk X.prog X.w H' h') (hg:AllBare g'):
  Inv X pins σ H' {s with heap:=h',gens:=g',drawn:=d',toks:=t'}:=by
 have E: ∀b o,X.s₀.heap.get? b=some o->b≠X.env.locals:=λb o e=>é (æ (ã e) I.ok.above)
 have t: ∀b o,X.s₀.heap.get? b=some o->b∉X.ex->b∉ch:=λb o e a y=>by
  rcases (hch b y).1 with z|z
  .exact a z
  .exact absurd (æ (ã e) z) (ĳ _)
 have h: ∀x c,X.env.cells.lookup x=some c-> ∀v,s.heap.IsCell c v->h'.IsCell c v:=λx c e v ⟨o,A,F⟩=>by
  have f:=λz=>(hch c z).2.2.1 x c e rfl;by_cases L:c∈X.fs
  .obtain⟨G,q⟩:=slot c o (I.cne x c e) L f A (I.freeC x c e);exact⟨_,q,F⟩
  .exact⟨o,keep c o (I.cne x c e) L f A (I.freeC x c e),F⟩
 refine⟨I.ok,I.os,hg,⟨λb o e n y a=>?_,λb o e n y a=>?_,λb o e n a=>?_,λb o e a=>?_,λb xs e=>tups b xs (I.base.tups b xs e),λb o xs e=>frzs b o xs (I.base.frzs b o xs e),λb ps e=>?_⟩,?_,λx c e=>?_,?_,λx c e=>?_,λp K=>?_,hok,I.len⟩
 .exact keep b o (E b o e) y (t b o e a) (I.base.keep b o e n y a) (I.base.free b o e n a)
 .obtain⟨G,j⟩:=I.base.slot b o e n y a;obtain⟨J,D⟩:=slot b _ (E b o e) y (t b o e a) j (I.base.free b o e n a);exact⟨J,D⟩
 .obtain⟨B,j⟩:=I.base.there b o e a;exact free b B (t b o e a) j (I.base.free b o e n a)
 .obtain⟨B,j⟩:=I.base.there b o e a;exact there b B (t b o e a) j
 .obtain⟨P,j⟩:=I.base.tbls b ps e;obtain⟨Q,D⟩:=tbls b _ j;exact⟨_,by rw[D,Array.append_assoc]⟩
 .obtain⟨m,O,N⟩:=I.loc;refine⟨m,ns m O,λi x v j D M=>?_⟩;obtain⟨u,r,l⟩:=N i x v j D M;refine⟨u,r,?_⟩;rcases l with l|⟨k,c,e,z⟩
  .exact .inl l
  .exact .inr ⟨k,c,e,h x c e _ z⟩
 .obtain⟨v,z⟩:=I.cell x c e;exact⟨v,h x c e v z⟩
 .obtain⟨m,⟨o,_,_,A,_⟩,_⟩:=I.loc;exact free _ o (λz=>(hch _ z).2.1 rfl) A I.free
 .obtain⟨v,o,A,F⟩:=I.cell x c e;exact free c o (λz=>(hch c z).2.2.1 x c e rfl) A (I.freeC x c e)
 .obtain⟨e,n,ne,nf,d⟩:=I.pin p K;have f:=λz=>(hch p.1 z).2.2.2 p K rfl;exact⟨keep p.1 p.2 ne nf f e n,free p.1 p.2 f e n,ne,nf,d⟩
def Inv.un(I:Inv X pins σ H s)(u:Un X.fs [] H H' s.heap h')(d:HOk X.prog X.w H' h'):Inv X pins σ H' {s with heap:=h',toks:=t'}:=by obtain⟨m,⟨o,es,y,j,r⟩,_⟩:=id I.loc;obtain⟨t,q⟩:=u.any j I.free (by simp);exact I.step (ch:=[]) (λ_ z=>nomatch z) (λb o _ h _ e n=>u.keep b o e n h (by simp)) (λb o _ h _ e n=>u.slot b o e n h (by simp)) (λb o _ e n=>u.free b o e n (by simp)) (λb o _ e=>u.there b o e (by simp)) u.tups u.frzs u.tbls (λA p=>by obtain⟨v,i,f,a,k⟩:=p;rw[j]at a;cases a;exact⟨_,i,f,q,k⟩) d I.bare
def Inv.call(I:↑1)(u:Un (LB X.stack) ch H H' s.heap h')(h:HOk X.prog X.w H' h')(q:AllBare g')
  (hch: ∀b∈ch,(b∈X.ex\/X.s₀.heap.objs.size<=b)/\b≠X.env.locals/\(∀x c,X.env.cells.lookup x=some c->c≠b)/\ ∀p∈X.pn++pins,p.1≠b):
  Inv X pins σ H' {s with heap:=h',gens:=g',drawn:=d',toks:=t'}:=by
 obtain⟨m,⟨o,es,C,k,r⟩,_⟩:=id I.loc;obtain⟨A,f⟩:=u.any k I.free λz=>(hch _ z).2.1 rfl;exact I.step hch (λb o f y a e n=>u.keep b o e n (λz=>(mC.mp (I.stkSub b z)).elim f y) a) (λb o _ _ a e n=>u.any e n a) (λb o a e n=>u.free b o e n a) (λb o a e=>u.there b o e a) u.tups u.frzs u.tbls (λD v=>by obtain⟨B,j,i,d,t⟩:=v;rw[k]at d;cases d;exact⟨_,j,i,f,t⟩) h q
def Inv.turned(I:↑1)(k: ∀b o,b≠it->s.heap.get? b=some o->h'.get? b=some o)(i:H it=none)(f:it≠X.env.locals)
  (h1:it∈X.ex\/X.s₀.heap.objs.size<=it) (h2: ∀x c,X.env.cells.lookup x=some c->c≠it) (h3: ∀p∈X.pn++pins,p.1≠it):Inv X pins σ H {s with heap:=h',toks:=t'}:=by
 have d: ∀b u,H b=some u->b≠it:=λb u e z=>by rw[z,i]at e;cases e
 refine I.step (ch:=[it]) (λb w=>?_) (λb o _ _ a e _=>k b o (λz=>a (by simp[z])) e) (λb o _ _ a e _=>⟨_,k b o (λz=>a (by simp[z])) e⟩) (λ_ _ _ _ n=>n)
  (λb o a e=>⟨o,k b o (λz=>a (by simp[z])) e⟩) (λ_ _ e=>e) (λ_ _ _ e=>e) (λb ps e=>⟨#[],by rw[e];simp⟩) (λm h=>?_) (λb u e=>?_) I.bare
 .have e:=by simpa using w
  subst e;exact⟨h1,f,h2,h3⟩
 .obtain⟨o,es,t,j,r⟩:=h;exact⟨o,es,t,k _ o (Ne.symm f) j,r⟩
 .refine(I.hok b u e).stay (λc v a q=>k c v ?_ q) (λ_ q=>q) λ_ _ q=>q;rcases a with z|z
  .rw[z];exact d b u e
  .exact d c _ z
def Inv.tok(I:↑1)(t):Inv X pins σ H {s with toks:=t}:=I.un Un.refl I.hok
def Inv.kept(I:↑1)(k: ∀b u,s.heap.get? b=some u->h'.get? b=some u):Inv X pins σ H {s with heap:=h',toks:=t'}:=I.un (Un.kept k) (I.hok.kept k)
def Inv.laid{a:Addr}(I:↑1)(k: ∀b u,s.heap.get? b=some u->h'.get? b=some u)(d:↑0<=a)(new:ObjOk X.prog X.w (jL H a o) h' a o):
  Inv X pins σ (jL H a o) {s with heap:=h',toks:=t'}:=I.un (Un.laid k d (I.hok.fresh d)) (I.hok.laid k d new)
def Inv.write(I:↑1)(f:O2 (H x))(d:e=x\/H e=some (.own x))(k: ∀b u,b≠e->s.heap.get? b=some u->h'.get? b=some u)(a: ∃u,h'.get? e=some u)
  (new:ObjOk X.prog X.w (jL H x o) h' x o):Inv X pins σ (jL H x o) {s with heap:=h',toks:=t'}:=I.un (Un.write f d k a) (I.hok.write f d k a new)
def Inv.pins_of(I:↑1)(h: ∀p∈pins',s.heap.get? p.1=some p.2/\H p.1=none/\p.1≠X.env.locals/\p.1∉X.fs/\ ∀v,p.2.data≠.cell v):Inv X pins' σ H s:=
 ⟨I.ok,I.os,I.bare,I.base,I.loc,I.cell,I.free,I.freeC,λp a=>(ê.mp a).elim (λz=>I.pin p (ÿ _ z)) (h p),I.hok,I.len⟩
def NI{N:C0}(f:N.Nodup){i:Nat}(a:N[i]? =some x)(b:N[j]? =some x):i=j:=by obtain⟨h,d⟩:=gS.mp a;obtain⟨k,e⟩:=gS.mp b;exact(getElem_inj f).mp (d.trans e.symm)
abbrev Q0(X:Cx)(x:Str):Prop:=X.fn x=true\/X.env.scope.names.lookup x=some .local
def IZ(I:↑1)(hN:X.N.Nodup)(hi:X.N[i]? =some x)(C:Loc X.env.scope x)(r:RelV v u)
  (h: ∀s',Inv X pins (σ.set i (some v)) H s'->(∃a,Heap.SameBut a s.heap s'.heap/\(a=X.env.locals\/X.env.cells.lookup x=some a))->Q () s') (hf:Q0 X x:=by first |exact .inl rfl|exact .inr rfl|assumption):wpAny M A (storeName X.env x u) Q E s:=by
 obtain⟨m,hn,hl⟩:=id I.loc;have T:(X.env.scope.kind==.class || (X.env.scope.kind==.module&&X.env.locals !=X.env.globals))=false:=by rw[I.ok.kind];rfl
 have G:i<σ.length:=by rw[I.len];exact(gS.mp hi).1
 have cne:=I.cne
 have t: ∀{a:Addr}{h':Heap},(∃o,s.heap.get? a=some o/\H a=none)->Heap.SameBut a s.heap h'->HOk X.prog X.w H h':=λ{a h'} ha hs b ob e=>by
  obtain⟨_,_,D⟩:=ha;refine(I.hok b ob e).stay (λc Y B q=>(hs.2 c ?_).trans q) (λ_ q=>q) λ_ _ q=>q;rintro rfl;rcases B with rfl|B
  .rw[D]at e;cases e
  .rw[D]at B;cases B
 rcases C with hk|hk
 .refine wpAny_storeName_local hk hn (λh' ab hs=>?_) T;obtain⟨oL,_,_,aa,_⟩:=id hn;refine h _ ⟨I.ok,I.os,I.bare,⟨λb o e n L C=>?_,λb o e n L C=>?_,I.base.free,λb o e C=>?_,I.base.tups,I.base.frzs,I.base.tbls⟩,⟨_,ab,λj y v' f F Z=>?_⟩,λy c e=>?_,I.free,I.freeC,λp hp=>?_,t ⟨oL,aa,I.free⟩ hs,by simpa using I.len⟩ ⟨_,hs,.inl rfl⟩
  .exact(hs.2 b (é (æ (ã e) I.ok.above))).trans (I.base.keep b o e n L C)
  .obtain⟨sl,f⟩:=I.base.slot b o e n L C;exact⟨sl,(hs.2 b (é (æ (ã e) I.ok.above))).trans f⟩
  .obtain⟨o',f⟩:=I.base.there b o e C;exact⟨o',(hs.2 b (é (æ (ã e) I.ok.above))).trans f⟩
  .by_cases K:j=i
   .subst K;rw[hi]at f;cases f;rw[Ċ G]at F;cases F;exact⟨u,r,.inl ⟨hk,by simp⟩⟩
   .rw[Ā (Ne.symm K)]at F;obtain⟨u',r',q⟩:=hl j y v' f F Z;refine⟨u',r',?_⟩;rcases q with⟨k,e⟩|⟨k,c,e,z⟩
    .refine .inl ⟨k,?_⟩;have:y≠x:=λe=>K (NI hN f (e▸hi));simp[this,e]
    .exact .inr ⟨k,c,e,z.sameBut hs (cne y c e)⟩
  .obtain⟨Y,z⟩:=I.cell y c e;exact⟨Y,z.sameBut hs (cne y c e)⟩
  .obtain⟨e,n,ne,nf,d⟩:=I.pin p hp;exact⟨(hs.2 p.1 ne).trans e,n,ne,nf,d⟩
 .have J:X.fn x=true:=by
   rcases hf with z|z
   .exact z
   .rw[z]at hk;cases hk
  obtain⟨c,B⟩:=I.ok.has x (.inl hk);obtain⟨Y,z⟩:=I.cell x c B;refine wpAny_storeName_cell I.ok.kind hk B z (λh' U hs=>?_);obtain⟨oc,O,S⟩:=id z;refine h {s with heap:=h'} ⟨I.ok,I.os,I.bare,⟨λb o e n L C=>?_,λb o e n L C=>?_,I.base.free,λb o e C=>?_,I.base.tups,I.base.frzs,I.base.tbls⟩,⟨m,hn.sameBut hs (Ne.symm (cne x c B)),λj y v' f F Z=>?_⟩,λy W e=>?_,I.free,I.freeC,λp hp=>?_,t ⟨oc,O,I.freeC x c B⟩ hs,by simpa using I.len⟩ ⟨c,hs,.inr B⟩
  .exact(hs.2 b (é (æ (ã e) (I.ok.cab x c J B)))).trans (I.base.keep b o e n L C)
  .obtain⟨sl,f⟩:=I.base.slot b o e n L C;exact⟨sl,(hs.2 b (é (æ (ã e) (I.ok.cab x c J B)))).trans f⟩
  .obtain⟨o',f⟩:=I.base.there b o e C;exact⟨o',(hs.2 b (é (æ (ã e) (I.ok.cab x c J B)))).trans f⟩
  .by_cases K:j=i
   .subst K;rw[hi]at f;cases f;rw[Ċ G]at F;cases F;exact⟨u,r,.inr ⟨.inl hk,c,B,U⟩⟩
   .rw[Ā (Ne.symm K)]at F;obtain⟨u',r',q⟩:=hl j y v' f F Z;refine⟨u',r',?_⟩;rcases q with q|⟨k,W,e,z'⟩
    .exact .inl q
    .refine .inr ⟨k,W,e,z'.sameBut hs ?_⟩;rintro rfl;exact K (NI hN f (I.ok.inj _ _ _ e B▸hi))
  .by_cases P:W=c
   .subst P;exact⟨_,U⟩
   .obtain⟨w2,z2⟩:=I.cell y W e;exact⟨w2,z2.sameBut hs P⟩
  .obtain⟨e,n,ne,nf,d⟩:=I.pin p hp;refine⟨(hs.2 p.1 ?_).trans e,n,ne,nf,d⟩;intro q;rw[q,O]at e;have q':oc=p.2:=å e;exact d Y (by rw[<-q'];exact S)
def NL(I:↑1)(e:X.N.Nodup)(hi:X.N[i]? =some x)(d:Loc X.env.scope x)(r:RelV v u)
  (h: ∀a,Inv X pins (σ.set i (some v)) H a->Q () a) (hf:Q0 X x:=by first |exact .inl rfl|exact .inr rfl|assumption):wpAny M A (storeName X.env x u) Q E s:=
 IZ I e hi d r (λa b _=>h a b) hf
def Inv.call'(I:↑1)(f:s'.os=s.os)(u:Un (LB X.stack) ch H H' s.heap s'.heap)(a:HOk X.prog X.w H' s'.heap)(d:AllBare s'.gens)
  (hch: ∀b∈ch,(b∈X.ex\/X.s₀.heap.objs.size<=b)/\b≠X.env.locals/\(∀x c,X.env.cells.lookup x=some c->c≠b)/\ ∀p∈X.pn++pins,p.1≠b):Inv X pins σ H' s':=by
 obtain⟨h',i,j,h,k⟩:=s';have e:=f;subst e;exact I.call u a d hch
end
abbrev XK:=Value->Option Addr->Hp->Prop
abbrev St:=List (Option V)
abbrev VK:=V->Hp->Prop
abbrev TE:=St->Hp->VK->Prop
abbrev TT:=St->Hp->(Bool->Hp->Prop)->Prop
abbrev TA:=St->Hp->(List V->Hp->Prop)->Prop
structure Ends where
 nx:St->Hp->Prop
 rt:VK
 bk:St->Hp->Prop:=λ_ _=>False
 ct:St->Hp->Prop:=λ_ _=>False
abbrev TS:=Ends->St->Hp->Prop
def EP(X:Cx)(pins:L1)(σ:St)(Q:VK)(u:ĵ)(a:Ĵ):Prop:= ∃v H',Inv X pins σ H' a/\RelV v u/\Q v H'
def TP(X:Cx)(pins:L1)(σ:St)(Q:Bool->Hp->Prop)(b:Bool)(a:Ĵ):Prop:= ∃H',Inv X pins σ H' a/\Q b H'
def AP(X:Cx)(pins:L1)(σ:St)(Q:List V->Hp->Prop)(b:A0)(d:Ĵ):Prop:= ∃a H',Inv X pins σ H' d/\Vals a b/\Q a H'
def SP(X:Cx)(pins:L1)(D:Ends)(f:Flow)(b:Ĵ):Prop:=
 match f with
 |.next=> ∃a H',Inv X pins a H' b/\D.nx a H'
 |.brk=> ∃a H',Inv X pins a H' b/\D.bk a H'
 |.cont=> ∃a H',Inv X pins a H' b/\D.ct a H'
 |.ret u=> ∃v a H',Inv X pins a H' b/\RelV v u/\D.rt v H'
def PE(X:Cx)(e:Expr)(t:TE):Prop:=
 ∀(pins:L1)(s:Ĵ)(σ:St)(H:Hp)(Q:VK),Inv X pins σ H s->t σ H Q->wpAny ↑6 X.A (eval e X.env) (EP X pins σ Q) X.xe s
def PT(X:Cx)(e:Expr)(t:TT):Prop:=
 ∀(pins:L1)(s:Ĵ)(σ:St)(H:Hp)(Q:Bool->Hp->Prop),Inv X pins σ H s->t σ H Q->wpAny ↑6 X.A (isTrue e X.env (eval e X.env)) (TP X pins σ Q) X.xe s
def PW(X:Cx)(e:Expr)(t:TT):Prop:=
 ∀(a:Sem ĵ)(pins:L1)(s:Ĵ)(σ:St)(H:Hp)(Q:Bool->Hp->Prop),Inv X pins σ H s->t σ H Q->wpAny ↑6 X.A (isTrue e X.env a) (TP X pins σ Q) X.xe s
def PW.pt(h:PW X e t):PT X e t:=h _
def PA(X:Cx)(es:O0)(t:TA):Prop:=
 ∀(pos:Pos)(pins:L1)(s:Ĵ)(σ:St)(H:Hp)(Q:List V->Hp->Prop),Inv X pins σ H s->t σ H Q->wpAny ↑6 X.A (spliced (backTo pos (starEach es X.env))) (AP X pins σ Q) X.xe s
def PS(X:Cx)(st:Stmt)(t:TS):Prop:=
 ∀(pins:L1)(s:Ĵ)(σ:St)(H:Hp)(D:Ends),Inv X pins σ H s->t D σ H->wpAny ↑6 X.A (exec st X.env) (SP X pins D) X.xe s
def PSs(X:Cx)(st:List Stmt)(t:TS):Prop:=
 ∀(pins:L1)(s:Ĵ)(σ:St)(H:Hp)(D:Ends),Inv X pins σ H s->t D σ H->wpAny ↑6 X.A (execs st X.env) (SP X pins D) X.xe s
def kL(h:wpAny M A t Q E s)(b: ∀a s,Q a s->Q' a s):wpAny M A t Q' E s:=ó h b λ_ _ x=>x
section
variable{X:Cx}
def Q1(i:Nat):TE:=λσ H Q=> ∃v,σ[i]? =some (some v)/\Q v H
def tC(v:V):TE:=λ_ H Q=>Q v H
def NN{pos:Pos}(j:X.N[i]? =some x)(hv:Rh X.env.scope x)(b:(x==("__debug__"))=false:=by decide)(d:(x==("__classdict__"))=false:=by decide):PE X (.Name x pos) (Q1 i):=by
 intro pins s σ H Q I h;obtain⟨v,e,h⟩:=h;obtain⟨m,f,k⟩:=I.loc;obtain⟨u,r,l⟩:=k i x v j e hv;have a:EP X pins σ Q u s:=⟨v,H,I,r,h⟩
 rcases l with⟨hk,hm⟩|⟨hk,c,hc,hcell⟩
 .exact wpAny_Name (wpAny_loadName_local I.ok.kind hk f hm a) b
 .rcases hk with hk|hk
  .exact wpAny_Name (wpAny_loadName_cell I.ok.kind hk hc hcell a) b
  .exact wpAny_Name (wpAny_loadName_free I.ok.kind hk hc hcell a d) b
def Bh:PE X (.Constant (.int i) j pos) (tC (.int i)):=λ_ _ _ H _ I h=>wpAny_Constant_int ⟨.int i,H,I.tok _,⟨_,rfl⟩,h⟩
def Q2:PE X (.Constant (.bool b) j pos) (tC (.bl b)):=λ_ _ _ H _ I h=>Constant_bool ⟨.bl b,H,I,rfl,h⟩
def Yd:PE X (.Constant .none j pos) (tC .non):=λ_ _ _ H _ I h=>Constant_none ⟨.non,H,I,rfl,h⟩
def Kp:PE X (.Constant (.str x) j pos) (tC (.str x)):=λ_ _ _ H _ I h=>Calls.Constant_str ⟨.str x,H,I.tok _,⟨_,rfl⟩,h⟩
def Gl(X:Cx)(x:Str):Prop:=X.env.kindOf x=some .globalImplicit
def rC(I:↑1)(a:Gl X x)(hm:X.mg x=some u)(h:Q u s)
  (hd:(x==("__debug__"))=false:=by decide):wpAny ↑6 X.A (eval (.Name x pos) X.env) Q E s:=
 Calls.Name_function_global I.ok.kind a (Calls.loadGlobal_global (by rw[I.ok.glob];exact I.mod.glob.keeps I.bk) hm h) hd
def JA{E:VP}{pos:Pos}(I:↑1)(d:Gl X x)(hm:X.mg x=none)(hv:bootBuiltins x=some u)(h:Q u s)
  (hn:x≠"__name__":=by decide) (hd:(x==("__debug__"))=false:=by decide):wpAny ↑6 X.A (eval (.Name x pos) X.env) Q E s:=by
 obtain⟨e,a,b⟩:=I.mod.blt;exact Calls.Name_function_global I.ok.kind d (Calls.loadGlobal_builtin (by rw[I.ok.glob];exact I.mod.glob.keeps I.bk) hm (by rw[I.ok.blt];exact a.keeps I.bk) ((b x hn).trans hv) h) hd
def UD(b:Gl X x)(hm:X.mg x=some u)(r:RelV v u)(a:(x==("__debug__"))=false:=by decide):PE X (.Name x pos) (tC v):=
 λ_ _ _ H _ I h=>rC I b hm ⟨v,H,I,r,h⟩ a
def Eb{pos:Pos}(b:Gl X x)(hm:X.mg x=none)(hv:bootBuiltins x=some u)(r:RelV v u)(d:x≠"__name__":=by decide)(a:(x==("__debug__"))=false:=by decide):PE X (.Name x pos) (tC v):=
 λ_ _ _ H _ I h=>JA I b hm hv ⟨v,H,I,r,h⟩ d a
variable{rest:O0}
def tAnd(t u:TT):TT:=λσ H Q=>t σ H λc a=>if c=true then u σ a Q else Q false a
def tOr(t u:TT):TT:=λσ H Q=>t σ H λc a=>if c=true then Q true a else u σ a Q
def tNot(t:TT):TT:=λσ H Q=>t σ H λc a=>Q (!c) a
def Ri(b:PT X a tA):PW X (.BoolOp .And [a] pos) tA:=by
 intro d pins s σ H Q I h;refine isTrue_and (kL (b pins s σ H Q I h) λc s1 e=>?_)
 cases c with
 |true=>exact isTrue_and_nil e
 |false=>exact e
def Ye(b:PT X a tA):PW X (.BoolOp .Or [a] pos) tA:=by
 intro d pins s σ H Q I h;refine isTrue_or (kL (b pins s σ H Q I h) λc s1 e=>?_)
 cases c with
 |false=>exact isTrue_or_nil e
 |true=>exact e
def Yf(j:PT X a tA)(i:PW X (.BoolOp .And (b::rest) pos) tB'):PW X (.BoolOp .And (a::b::rest) pos) (tAnd tA tB'):=by
 intro f pins s σ H Q I h;refine isTrue_and (kL (j pins s σ H _ I h) λc s1 ⟨d,I1,e⟩=>?_)
 cases c with
 |true=>exact i f pins s1 σ d Q I1 e
 |false=>exact⟨d,I1,e⟩
def Q3(j:PT X a tA)(i:PW X (.BoolOp .Or (b::rest) pos) tB'):PW X (.BoolOp .Or (a::b::rest) pos) (tOr tA tB'):=by
 intro f pins s σ H Q I h;refine isTrue_or (kL (j pins s σ H _ I h) λc s1 ⟨d,I1,e⟩=>?_)
 cases c with
 |true=>exact⟨d,I1,e⟩
 |false=>exact i f pins s1 σ d Q I1 e
def Yg(d:PT X a tA):PT X (.UnaryOp .Not a pos) (tNot tA):=by intro pins s σ H Q I h;exact isTrue_not (d pins s σ H (λc b=>Q (!c) b) I h)
def Q4(d b:TE):TE:=λσ H Q=>d σ H λx a=> ∃c,x=.bl c/\if c=true then b σ a Q else Q (.bl false) a
def tOrV(d b:TE):TE:=λσ H Q=>d σ H λx a=> ∃c,x=.bl c/\if c=true then Q (.bl true) a else b σ a Q
def Q6(b:TE):TE:=λσ H Q=>b σ H λx a=> ∃c,x=.bl c/\Q (.bl (!c)) a
def Yh(h:PE X a t):PE X (.BoolOp op [a] pos) t:=λpins s σ H Q I hw=>BoolOp_one (h pins s σ H Q I hw)
def Yi(i:PE X a ta)(f:PE X (.BoolOp .And (b::rest) pos) tb):PE X (.BoolOp .And (a::b::rest) pos) (Q4 ta tb):=by
 intro pins s σ H Q I h;refine BoolOp_and (kL (i pins s σ H _ I h) λv s1 ⟨x,e,I1,j,d⟩=>?_);obtain⟨c,rfl,d⟩:=d;cases j;refine Ć ?_
 cases c with
 |true=>exact f pins s1 σ e Q I1 d
 |false=>exact⟨.bl false,e,I1,rfl,d⟩
def Q7(i:PE X a ta)(f:PE X (.BoolOp .Or (b::rest) pos) tb):PE X (.BoolOp .Or (a::b::rest) pos) (tOrV ta tb):=by
 intro pins s σ H Q I h;refine BoolOp_or (kL (i pins s σ H _ I h) λv s1 ⟨x,e,I1,j,d⟩=>?_);obtain⟨c,rfl,d⟩:=d;cases j;refine Ć ?_
 cases c with
 |false=>exact f pins s1 σ e Q I1 d
 |true=>exact⟨.bl true,e,I1,rfl,d⟩
def Yj(e:PE X a ta):PE X (.UnaryOp .Not a pos) (Q6 ta):=by intro pins s σ H Q I h;refine UnaryOp_ (kL (e pins s σ H _ I h) λv s1 ⟨x,d,I1,f,b⟩=>?_);obtain⟨c,rfl,b⟩:=b;cases f;exact not_of (Ć ⟨.bl (!c),d,I1,rfl,b⟩)
def tIf(t:TT)(d b:TE):TE:=λσ H Q=>t σ H λc a=>if c=true then d σ a Q else b σ a Q
def Kq(k:PT X c tA)(j:PE X a ta)(i:PE X b tb):PE X (.IfExp c a b pos) (tIf tA ta tb):=by
 intro pins s σ H Q I h;refine wpAny_IfExp (kL (k pins s σ H _ I h) λd s1 ⟨e,I1,f⟩=>?_)
 cases d with
 |true=>exact j pins s1 σ e Q I1 f
 |false=>exact i pins s1 σ e Q I1 f
end
def SqL(K:P0)(H:Hp)(a:Addr)(xs:List V):Prop:=
 Rd H a (.lst xs)\/
  ∃(o:Obj)(b:B0)(n:Nat),K.lookup a=some o/\o.cls=.type "list"/\o.dict=none/\o.data=.seq b n/\b.size<=sizeLine/\Vals xs b.toList
def SqT(K:P0)(H:Hp)(a:Addr)(xs:List V):Prop:=
 Rd H a (.tup xs)\/
  ∃(o:Obj)(b:B0)(n:Nat),K.lookup a=some o/\o.cls=.type "tuple"/\o.data=.seq b n/\b.size<=sizeLine/\Vals xs b.toList
noncomputable def absV:ĵ->Option V
 |.none=>some .non
 |.bool b=>some (.bl b)
 |.int i _=>some (.int i)
 |.str x _=>some (.str x)
 |.bytes b _=>some (.byt b)
 |.float b _=>some (.flt b)
 |.ref a=>some (.ref a)
 |.type n=>some (.ty n)
 |_=>none
theorem RelV.abs(r:RelV x u):absV u=some x:=by
 cases x with
 |non=>cases r;rfl
 |bl _=>cases r;rfl
 |int _=>obtain⟨t,rfl⟩:=r;rfl
 |str _=>obtain⟨t,rfl⟩:=r;rfl
 |byt _=>obtain⟨t,rfl⟩:=r;rfl
 |flt _=>obtain⟨t,rfl⟩:=r;rfl
 |ref _=>cases r;rfl
 |ty _=>cases r;rfl
def RelV.inj(r:RelV x u)(q:RelV y u):x=y:=å (r.abs.symm.trans q.abs)
theorem Vals.inj: ∀{xs b}{a},Vals xs a->Vals b a->xs=b
 |_,_,_,.nil,.nil=>rfl
 |_,_,_,.cons r t,.cons r' t'=>by rw[r.inj r',Vals.inj t t']
section
def SqL.of{K:P0}(h:H a=some (.lst xs)):SqL K H a xs:=.inl (.inl h)
def SqT.of{K:P0}(h:H a=some (.tup xs)):SqT K H a xs:=.inl (.inl h)
theorem Inv.list(I:↑1)(h:SqL X.K H a xs): ∃b:List ĵ,Vals xs b/\PlainL s.heap a b.toArray/\xs.length<=sizeLine:=by
 rcases h with h|⟨o,b,n,hk,hc,hd,hs,hz,r⟩
 .obtain⟨z,b,n,r,e⟩:=h.ok I.hok;exact⟨b,r,⟨_,n,e,rfl,rfl,rfl⟩,z⟩
 .refine⟨_,r,⟨o,n,I.kIn a o hk,hc,hd,by simpa using hs⟩,?_⟩;have e:=r.length;simp only[Đ]at e
  lia
theorem Inv.tuple(I:↑1)(h:SqT X.K H a xs): ∃b:List ĵ,Vals xs b/\IsTup s.heap a b.toArray/\xs.length<=sizeLine:=by
 rcases h with h|⟨o,b,n,hk,hc,hs,hz,r⟩
 .obtain⟨z,b,r,p⟩:=h.ok I.hok;exact⟨b,r,p,z⟩
 .refine⟨_,r,⟨o,I.kIn a o hk,hc,n,by simpa using hs⟩,?_⟩;have e:=r.length;simp only[Đ]at e
  lia
def Inv.list_inj(I:↑1)(h:SqL X.K H a xs)(h':SqL X.K H a ys):xs=ys:=by
 obtain⟨k,r,⟨o,n,e,_,_,d⟩,_⟩:=I.list h;obtain⟨i,j,⟨p,m,b,_,_,f⟩,_⟩:=I.list h';rw[e]at b;cases b;rw[d]at f;injection f with d1 _
 have:=by simpa using congrArg Array.toList d1
 subst this;exact r.inj j
def Inv.tuple_inj(I:↑1)(h:SqT X.K H a xs)(h':SqT X.K H a ys):xs=ys:=by
 obtain⟨k,r,⟨o,e,_,n,d⟩,_⟩:=I.tuple h;obtain⟨i,j,⟨p,b,_,m,f⟩,_⟩:=I.tuple h';rw[e]at b;cases b;rw[d]at f;injection f with d1 _
 have:=by simpa using congrArg Array.toList d1
 subst this;exact r.inj j
end
abbrev Cx.wish(X:Cx)(E:VP):Cx:={X with xe:=E}
abbrev Cx.nox(X:Cx):Cx:=X.wish λ_ _=>False
def Cx.Ok.wish{X:Cx}(ok:X.Ok)(E):(X.wish E).Ok:=
 ⟨ok.mod,ok.kind,ok.glob,ok.blt,ok.above,ok.inj,ok.has,ok.cab,ok.hd,ok.frames,ok.stk,ok.exf,ok.bs,ok.bsz,ok.noex,ok.exfs,ok.funs,ok.frf⟩
def Cx.Ok.unwish{X:Cx}(ok:(X.wish E).Ok):X.Ok:=
 ⟨ok.mod,ok.kind,ok.glob,ok.blt,ok.above,ok.inj,ok.has,ok.cab,ok.hd,ok.frames,ok.stk,ok.exf,ok.bs,ok.bsz,ok.noex,ok.exfs,ok.funs,ok.frf⟩
section
variable{pins:L1}{σ:St}{H:Hp}{s:Ĵ}
def Inv.wish(I:↑1)(E):Inv (X.wish E) pins σ H s:=⟨I.ok.wish E,I.os,I.bare,I.base,I.loc,I.cell,I.free,I.freeC,I.pin,I.hok,I.len⟩
def Inv.unwish(I:Inv (X.wish E) pins σ H s):Inv X pins σ H s:=⟨I.ok.unwish,I.os,I.bare,I.base,I.loc,I.cell,I.free,I.freeC,I.pin,I.hok,I.len⟩
def SP.unwish(h:SP (X.wish E) pins D f s'):SP X pins D f s':=by
 cases f with
 |next=>obtain⟨a,H',I,q⟩:=h;exact⟨a,H',I.unwish,q⟩
 |brk=>obtain⟨a,H',I,q⟩:=h;exact⟨a,H',I.unwish,q⟩
 |cont=>obtain⟨a,H',I,q⟩:=h;exact⟨a,H',I.unwish,q⟩
 |ret u=>obtain⟨v,a,H',I,r,q⟩:=h;exact⟨v,a,H',I.unwish,r,q⟩
def PSs.nox{st:List Stmt}(h:PSs X.nox st t):PSs X st t:=λpins s σ H D I hw=>
 ó (h pins s σ H D (I.wish _) hw) (λ_ _ q=>q.unwish) λ_ _ z=>False.elim z
end
section
variable{st:Stmt}{rest:List Stmt}
def Q8:TS:=λD σ H=>D.nx σ H
def tSeq(t u:TS):TS:=λD σ H=>t {D with nx:=u D} σ H
def Rj:PSs X [] Q8:=λ_ _ σ H _ I h=>İ ⟨σ,H,I,h⟩
def Kr(b:PS X st t)(d:PSs X rest u):PSs X (st::rest) (tSeq t u):=by
 intro pins s σ H D I h;refine wpAny_execs_cons (kL (b pins s σ H {D with nx:=u D} I h) λf s1 q=>?_)
 cases f with
 |next=>
  obtain⟨a,H',e,q⟩:=q;exact d pins s1 a H' D e q
 |ret v=>exact q
 |brk=>exact q
 |cont=>exact q
def Rk(a:PS X st t):PSs X [st] t:=by
 intro pins s σ H D I h;refine wpAny_execs_cons (kL (a pins s σ H D I h) λf s1 q=>?_)
 cases f with
 |next=>exact İ q
 |ret v=>exact q
 |brk=>exact q
 |cont=>exact q
def Inv.quiet(I:↑1):interactive X.env=false:=by simp[interactive,I.ok.kind]
def Q9(b:TE):TS:=λD σ H=>b σ H λ_ a=>D.nx σ a
def Rl(a:PE X e te)(hs:swapsWith e none pos.line X.env=pure false:=by rfl):PS X (.Expr e pos) (Q9 te):=by intro pins s σ H D I h;exact wpAny_Expr_any (kL (a pins s σ H _ I h) λv s1 ⟨x,b,I1,f,d⟩=>⟨σ,b,I1,d⟩) I.quiet hs
def tRet(a:TE):TS:=λD σ H=>a σ H D.rt
def Yk(a:PE X e te):PS X (.Return (some e) pos) (tRet te):=by intro pins s σ H D I h;exact wpAny_Return_some (kL (a pins s σ H _ I h) λv s1 ⟨x,b,I1,f,d⟩=>⟨x,σ,b,I1,f,d⟩)
def tIfS(c:TT)(t u:TS):TS:=λD σ H=>c σ H λb a=>if b=true then t D σ a else u D σ a
def R1(k:PT X c tc)(j:PSs X a t)(i:PSs X b u):PS X (.If c a b pos) (tIfS tc t u):=by
 intro pins s σ H D I h;refine wpAny_If (kL (k pins s σ H _ I h) λd s1 ⟨e,I1,f⟩=>?_)
 cases d with
 |true=>exact j pins s1 σ e D I1 f
 |false=>exact i pins s1 σ e D I1 f
end
abbrev TG:=V->St->Hp->(St->Hp->Prop)->Prop
abbrev Yl:=List V->St->Hp->(St->Hp->Prop)->Prop
def PG(X:Cx)(a:Expr)(t:TG):Prop:=
 ∀(pins:L1)(s:Ĵ)(σ:St)(H:Hp)(v:V)(u:ĵ)(Q:St->Hp->Prop),Inv X pins σ H s->RelV v u->t v σ H Q->
  wpAny ↑6 X.A (assign a X.env u) (λ_ d=> ∃b H',Inv X pins b H' d/\Q b H') X.xe s
def O3(X:Cx)(ts:O0)(t:Yl):Prop:=
 ∀(pins:L1)(s:Ĵ)(σ:St)(H:Hp)(d:List V)(b:A0)(Q:St->Hp->Prop),Inv X pins σ H s->Vals d b->t d σ H Q->
  wpAny ↑6 X.A (assignInOrder ((assignEach ts X.env).map (·.2)) b) (λ_ e=> ∃a H',Inv X pins a H' e/\Q a H') X.xe s
abbrev TSet:=V->V->V->Hp->(Hp->Prop)->Prop
def Ym(X:Cx)(t:TSet):Prop:=
 ∀(pins:L1)(s:Ĵ)(σ:St)(H:Hp)(o i v:V)(b a u:ĵ)(Q:Hp->Prop),Inv X pins σ H s->RelV o b->RelV i a->RelV v u->t o i v H Q->
  wpAny ↑6 X.A (setItem b a u) (λ_ d=> ∃H',Inv X pins σ H' d/\Q H') X.xe s
section
variable{pos:Pos}
def Ks(i:Nat):TG:=λv σ H Q=>Q (σ.set i (some v)) H
def Ec(e:X.N.Nodup)(hi:X.N[i]? =some x)(b:Loc X.env.scope x)(d:Q0 X x:=by first |exact .inl rfl|exact .inr rfl|assumption):PG X (.Name x pos) (Ks i):=by intro pins s σ H v u Q I r h;exact wpAny_assign_Name (NL I e hi b r (λf a=>⟨_,H,a,h⟩) d)
def gNil:Yl:=λa σ H Q=>a=[]/\Q σ H
def R3(t:TG)(u:Yl):Yl:=λb σ H Q=> ∃v r,b=v::r/\t v σ H λa H'=>u r a H' Q
def Ed:O3 X [] gNil:=by intro pins s σ H b a Q I r h;obtain⟨e,h⟩:=h;subst e;exact assignInOrder_nil ⟨σ,H,I,h⟩
def XZ(d:PG X e t)(f:O3 X es u)
  (hs:(assignEach (e::es) X.env).map (·.2)=assign e X.env::(assignEach es X.env).map (·.2):=by rfl):O3 X (e::es) (R3 t u):=by
 intro pins s σ H n k Q I r h;obtain⟨v,m,b,h⟩:=h;subst b
 cases r with
 |cons r rr=>
  rw[hs];refine assignInOrder_cons (kL (d pins s σ H _ _ _ I r h) λ_ s1 ⟨a,i,I1,j⟩=>?_);exact f pins s1 a i _ _ Q I1 rr j
def gTup(K:P0)(n:Nat)(t:Yl):TG:=λv σ H Q=> ∃a xs,v=.ref a/\SqT K H a xs/\xs.length=n/\t xs σ H Q
def Kt{k:Nat}(j:X.calm=true)(h:O3 X es t)
  (hn:(assignEach es X.env).length=n:=by rfl) (hst:(assignEach es X.env).findIdx? (·.1)=none:=by rfl):PG X (.Tuple es k pos) (gTup X.K n t):=by
 intro pins s σ H v u Q I r hw;obtain⟨a,xs,f,q,w,hw⟩:=hw;subst f;cases r;obtain⟨i,d,m,y⟩:=I.tuple q;refine assign_Tuple_tuple (I.ok.hd j) m (by simp[hn, <-w,d.length]) hst λh' p=>?_;have I1:Inv X pins σ H {s with heap:=h'}:=I.kept λb o e=>p b o (é (ã e)) e;exact h pins _ σ H xs _ Q I1 (by simpa using d) hw
def gSub(e f:TE)(t:TSet):TG:=λv σ H Q=>e σ H λo d=>f σ d λi b=>t o i v b λa=>Q σ a
def Ku(p:PE X o to)(hi:PE X i ti)(hs:Ym X t)
  (ha: ∀v,assign (.Subscript o i pos) X.env v=(do
   let a <-holding [v] (eval o X.env);let b <-holding [v,a] (eval i X.env)
   standAt pos
   holding [v,a,b] (setItem a b v)
   release [v,a,b] []):=by intro _;rfl):PG X (.Subscript o i pos) (gSub to ti t):=by
 intro pins s σ H v u Q I r h;refine wB (ĉ (kL (p pins s σ H _ I h) λa s1 ⟨x,q,I1,n,w⟩=>?_));refine wB (ĉ (kL (hi pins s1 σ q _ I1 w) λb A ⟨y,e,z,j,k⟩=>?_));refine wB (ē (wB (ĉ (kL (hs pins A σ e x y v a b u _ z n j r k) λ_ B ⟨m,f,d⟩=>?_))));exact wpAny_release ⟨σ,m,f,d⟩
def Yn(b:TE)(g:TG):TS:=λD σ H=>b σ H λx a=>g x σ a D.nx
def Yo(b:PE X e te)(a:PG X tg g)(hs:swapsWithSole [tg] e pos.line X.env=pure false:=by rfl)(hw:swappedStores [tg] e X.env=pure none:=by rfl)
  (h1:(assignEach [tg] X.env).map (·.2)=[assign tg X.env]:=by rfl):PS X (.Assign [tg] e pos) (Yn te g):=by
 intro pins s σ H D I h;refine wpAny_Assign_stores (kL (b pins s σ H _ I h) λv s1 ⟨x,d,I1,i,f⟩=>?_) hs hw;rw[h1];exact kL (a pins s1 σ d x v _ I1 i f) λ_ j q=>q
def Yp(n:X.N.Nodup)(hi:X.N[i]? =some x)(f:Loc X.env.scope x)(d:PE X e te)(hs:swapsWith e (some (.Name x pos')) pos.line X.env=pure false:=by rfl)(a:Q0 X x:=by first |exact .inl rfl|exact .inr rfl|assumption):
  PS X (.Assign [.Name x pos'] e pos) (Yn te (Ks i)):=by
 intro pins s σ H D I h;refine wpAny_Assign_Name (kL (d pins s σ H _ I h) λv s1 ⟨y,j,I1,b,k⟩=>?_) hs;exact NL I1 n hi f b (λo m=>⟨_,j,m,k⟩) a
end
structure It where
 go:Nat->Hp->Prop
 yld:Nat->Hp->V->Hp->Prop
 stop:Nat->Hp->Prop
def pE(X:Cx)(pins:L1)(H:Hp)(b:Addr):Prop:=
 H b=none/\b≠X.env.locals/\b∉X.fs/\(b∈X.ex\/X.s₀.heap.objs.size<=b)/\(∀x c,X.env.cells.lookup x=some c->c≠b)/\ ∀p∈X.pn++pins,p.1≠b
def Inv.fpOk{b:Addr}(I:↑1)(a:↑0<=b)(f:H' b=none):pE X pins H' b:=by
 refine⟨f,û (æ I.lt a),I.nofs a,.inr (ç I.sz a),λx c e z=>?_,λp d z=>?_⟩
 .obtain⟨v,q⟩:=I.cell x c e;exact absurd (æ q.lt (by rw[z];exact a)) (ĳ _)
 .exact absurd (æ (ã (I.pin p d).1) (by rw[z];exact a)) (ĳ _)
structure Turn(P:Ķ)(w:World)(K:P0)(tg:Expr)(J:It)(fp:B9)(it:Addr)(tn:Nat->Heap->Prop):Prop where
 mem:it∈fp
 obj: ∀i h,tn i h-> ∀b∈fp, ∃o,h.get? b=some o/\ ∀v,o.data≠.cell v
 keep: ∀i h h',tn i h->(∀b∈fp, ∀o,h.get? b=some o->h'.get? b=some o)->tn i h'
 item: ∀(X:Cx),X.prog=P->X.w=w->X.K=K->X.calm=true-> ∀(i:Nat)(pins:L1)(s:Ĵ)(σ:St)(H:Hp)(E:VP),Inv X pins σ H s->(∀b∈fp,pE X pins H b)->tn i s.heap->J.go i H->
  wpAny (model P w) X.A (pyNext (.ref it)) (λr s1=> ∃u,r=some u/\
   wpAny (model P w) X.A (letOwnedTupleGo tg (.ref it) u) (λ_ s2=> ∃x H',Inv X pins σ H' s2/\RelV x u/\J.yld i H x H'/\tn (i+1) s2.heap/\ ∀b∈fp,H' b=none) E s1) E s
 done: ∀(X:Cx),X.prog=P->X.w=w->X.K=K->X.calm=true-> ∀(i:Nat)(pins:L1)(s:Ĵ)(σ:St)(H:Hp)(E:VP),Inv X pins σ H s->(∀b∈fp,pE X pins H b)->tn i s.heap->J.stop i H->
  wpAny (model P w) X.A (pyNext (.ref it)) (λr s1=>r=none/\Inv X pins σ H s1) E s
 self: ∀(A:Around)(i:Nat)(s:Ĵ)(Q:VP)(E:VP),tn i s.heap->Q (.ref it) s->wpAny (model P w) A (pyIter (.ref it)) Q E s
abbrev TI:=St->Hp->(It->Hp->Prop)->Prop
def PIE(X:Cx)(pins:L1)(σ:St)(tg:Expr)(R:It->Hp->Prop)(a:ĵ)(e:Ĵ):Prop:=
 ∃(d:Addr)(fp:B9)(tn:Nat->Heap->Prop)(J:It)(H':Hp),a=.ref d/\Inv X pins σ H' e/\Turn X.prog X.w X.K tg J fp d tn/\tn 0 e.heap/\(∀b∈fp,pE X pins H' b)/\R J H'
def PI(X:Cx)(tg iter:Expr)(a:TI):Prop:=
 ∀(pins:L1)(s:Ĵ)(σ:St)(H:Hp)(R:It->Hp->Prop),Inv X pins σ H s->a σ H R->
  wpAny ↑6 X.A (eval iter X.env) (λv s1=>wpAny ↑6 X.A (pyIter v) (PIE X pins σ tg R) X.xe s1) X.xe s
def Ee(d:s.heap.get? it=some o)(b:o.cls=.type n)(a:o.data=.fields vs)
  (hn:["enumerate","zip","dict_itemiterator","dict_reverseitemiterator","odict_iterator","itertools.zip_longest","itertools.pairwise"].contains n=false) (hQ:Q () s):wpAny M A (letOwnedTupleGo tg (.ref it) u) Q E s:=by
 cases tg<;>first
  |exact wP hQ
  |(cases u<;>first
    |exact wP hQ
    |(refine wB (wpAny_load d ?_)
      rw[b,a];show wpAny M A (if _=true then _ else _) Q E s;rw[iN0 (by intro h;rw[hn]at h;cases h)];exact wP hQ))
noncomputable def zAB(K:P0)(a:Addr):It:=
 ⟨λi H=> ∃xs x,SqL K H a xs/\xs[i]? =some x,λi H x H'=>H'=H/\ ∀xs,SqL K H a xs->xs[i]? =some x,λi H=> ∃xs,SqL K H a xs/\xs.length<=i⟩
noncomputable def zAC(K:P0)(a:Addr):It:=
 ⟨λi H=> ∃xs x,SqT K H a xs/\xs[i]? =some x,λi H x H'=>H'=H/\ ∀xs,SqT K H a xs->xs[i]? =some x,λi H=> ∃xs,SqT K H a xs/\xs.length<=i⟩
noncomputable def zAD(lo:Int)(n:Nat):It:=⟨λi _=>i<n,λi H x H'=>H'=H/\x=.int (lo+i),λi _=>n<=i⟩
theorem RN{K:P0}(a it):Turn P w K tg (zAB K a) [it] it (λi h=>h.IsListIter it a i) where
 mem:=by simp
 obj:=λi h st b hb=>by
  have e:=by simpa using hb
  subst e;obtain⟨o,e,c,d⟩:=st;exact⟨o,e,λv z=>by rw[d]at z;cases z⟩
 keep:=λi h h' st k=>st.at λo e=>k it (by simp) o e
 item:=by intro X hP hw hK hc i pins s σ H E I hf st hg;subst hP hw hK;obtain⟨xs,x,hq,hx⟩:=hg;obtain⟨its,rv,p,hz⟩:=I.list hq;obtain⟨u,hu,ru⟩:=rv.get hx;obtain⟨f0,f1,f2,f3,f4,f5⟩:=hf it (by simp);refine wpAny_pyNext_list_item st p.isList (by simpa using hu) λh' st' sb=>?_;have I1:Inv X pins σ H {s with heap:=h'}:=I.turned (λb o hb e=>(sb.2 b hb).trans e) f0 f1 f3 f4 f5;obtain⟨o,e,c,d⟩:=id st';exact⟨u,rfl,Ee e c d ↑4 ⟨x,H,I1,ru,⟨rfl,λys hy=>by rw[I.list_inj hy hq];exact hx⟩,st',λb hb=>(hf b hb).1⟩⟩
 done:=by intro X hP hw hK hc i pins s σ H E I hf st hg;subst hP hw hK;obtain⟨xs,hq,hx⟩:=hg;obtain⟨its,rv,p,hz⟩:=I.list hq;obtain⟨f0,f1,f2,f3,f4,f5⟩:=hf it (by simp);have hl:=rv.length;exact wpAny_pyNext_list_end (I.ok.hd hc) st p.isList (by simp;lia) λh' eb=>⟨rfl,I.turned (λb o hb e=>eb b o hb e) f0 f1 f3 f4 f5⟩
 self:=λ_ _ _ _ _ st h=>wpAny_pyIter_listiter st h
theorem NO{K:P0}(a it):Turn P w K tg (zAC K a) [it] it (λi h=>h.IsTupleIter it a i) where
 mem:=by simp
 obj:=λi h st b hb=>by
  have e:=by simpa using hb
  subst e;obtain⟨o,e,c,d⟩:=st;exact⟨o,e,λv z=>by rw[d]at z;cases z⟩
 keep:=λi h h' st k=>st.at λo e=>k it (by simp) o e
 item:=by intro X hP hw hK hc i pins s σ H E I hf st hg;subst hP hw hK;obtain⟨xs,x,hq,hx⟩:=hg;obtain⟨its,rv,p,hz⟩:=I.tuple hq;obtain⟨u,hu,ru⟩:=rv.get hx;obtain⟨f0,f1,f2,f3,f4,f5⟩:=hf it (by simp);refine wpAny_pyNext_tuple_item st p (by simpa using hu) λh' st' sb=>?_;have I1:Inv X pins σ H {s with heap:=h'}:=I.turned (λb o hb e=>(sb.2 b hb).trans e) f0 f1 f3 f4 f5;obtain⟨o,e,c,d⟩:=id st';exact⟨u,rfl,Ee e c d ↑4 ⟨x,H,I1,ru,⟨rfl,λys hy=>by rw[I.tuple_inj hy hq];exact hx⟩,st',λb hb=>(hf b hb).1⟩⟩
 done:=by intro X hP hw hK hc i pins s σ H E I hf st hg;subst hP hw hK;obtain⟨xs,hq,hx⟩:=hg;obtain⟨its,rv,p,hz⟩:=I.tuple hq;obtain⟨f0,f1,f2,f3,f4,f5⟩:=hf it (by simp);have hl:=rv.length;exact wpAny_pyNext_tuple_end (I.ok.hd hc) st p (by simp;lia) λh' eb=>⟨rfl,I.turned (λb o hb e=>eb b o hb e) f0 f1 f3 f4 f5⟩
 self:=λ_ _ _ _ _ st h=>wpAny_pyIter_tupleiter st h
theorem Bi{K:P0}(it)(lo)(n):Turn P w K tg (zAD lo n) [it] it (λi h=>IsRangeIter h it (lo+ i  * 1) ( n  -  i ) 1) where
 mem:=by simp
 obj:=λi h st b hb=>by
  have e:=by simpa using hb
  subst e;exact⟨_,st,λv z=>by have z':=z;cases z'⟩
 keep:=λi h h' st k=>k it (by simp) _ st
 item:=by intro X hP hw hK hc i pins s σ H E I hf st hg;subst hP hw hK;obtain⟨f0,f1,f2,f3,f4,f5⟩:=hf it (by simp);have W:=Walks.range (prog:=X.prog) (w:=X.w) (I.ok.hd hc) it lo 1 n;refine W.item i s _ _ hg st λv h' tk hv st' kk=>?_;obtain⟨t,rfl⟩:=hv;have I1:Inv X pins σ H {s with heap:=h',toks:=tk}:=I.turned (λb o hb e=>kk b o (by simpa using hb) e) f0 f1 f3 f4 f5;refine⟨_,rfl,Ee st' rfl rfl ↑4 ⟨.int _,H,I1,⟨t,?_⟩,⟨rfl,rfl⟩,st',λb hb=>(hf b hb).1⟩⟩;rw[Int.mul_one]
 done:=by intro X hP hw hK hc i pins s σ H E I hf st hg;obtain⟨f0,f1,f2,f3,f4,f5⟩:=hf it (by simp);exact wpAny_pyNext_range_end (I.ok.hd hc) st (by have:n<=i:=hg;lia) λh' eb=>⟨rfl,I.turned (λb o hb e=>eb b o hb e) f0 f1 f3 f4 f5⟩
 self:=λ_ _ _ _ _ st h=>wpAny_pyIter_rangeiter st h
section
def R5(K:P0)(d:TE):TI:=λσ H R=>d σ H λx b=> ∃a,x=.ref a/\(∃xs,SqL K b a xs)/\R (zAB K a) b
def iTup(K:P0)(d:TE):TI:=λσ H R=>d σ H λx b=> ∃a,x=.ref a/\(∃xs,SqT K b a xs)/\R (zAC K a) b
def Rm(n:PE X l tl):PI X tg l (R5 X.K tl):=by
 intro pins s σ H R I h;refine kL (n pins s σ H _ I h) λv s1 ⟨x,j,I1,f,k⟩=>?_;obtain⟨a,e,⟨xs,m⟩,q⟩:=k;subst e;cases f;obtain⟨d,r,p,t⟩:=I1.list m;refine wpAny_pyIter_list p.isList ?_;refine⟨_,_,_,_,j,rfl,I1.kept λb o e=>hP0 _ e,RN a _,⟨_,ä _ rfl,rfl,rfl⟩,λb i=>?_,q⟩;have e:=by simpa using i
 subst e;exact I1.fpOk (à _) (I1.hok.fresh (à _))
def Yq(n:PE X l tl):PI X tg l (iTup X.K tl):=by
 intro pins s σ H R I h;refine kL (n pins s σ H _ I h) λv s1 ⟨x,j,I1,f,k⟩=>?_;obtain⟨a,e,⟨xs,m⟩,q⟩:=k;subst e;cases f;obtain⟨d,r,p,t⟩:=I1.tuple m;refine wpAny_pyIter_tuple p ?_;refine⟨_,_,_,_,j,rfl,I1.kept λb o e=>hP0 _ e,NO a _,⟨_,ä _ rfl,rfl,rfl⟩,λb i=>?_,q⟩;have e:=by simpa using i
 subst e;exact I1.fpOk (à _) (I1.hok.fresh (à _))
theorem Kv{lo:Int}(I:↑1)(d: -(2 ^ 62)<=lo)(f:lo<2 ^ 62)(k: -(2 ^ 62)<=hi)(j:hi<2 ^ 62)
  (q:R (zAD lo (hi - lo).toNat) H):wpAny ↑6 X.A (pyIter (.ref ↑0)) (PIE X pins σ tg R) E {s with heap:=s.heap.push {cls:=.type "range",data:=.fields #[.int lo t,.int hi u,.int 1 v]},toks:=tk}:=by
 refine wpAny_pyIter_range (IsRange.new ..) (small_one d f k j) ?_;have I1:Inv X pins σ H {s with heap:=s.heap.push {cls:=.type "range",data:=.fields #[.int lo t,.int hi u,.int 1 v]},toks:=tk}:=I.kept λb o e=>hP0 _ e
 refine⟨_,_,_,_,H,rfl,
  I1.kept λb o e=>hP0 _ e,Bi _ lo (hi - lo).toNat,?_,λb h=>?_,q⟩
 .have a:lo+((0:Nat):Int) * 1=lo:=by simp
  have i:(((hi - lo).toNat:Nat):Int) - ((0:Nat):Int)=Builtin.Range.rangeSize lo hi 1:=by rw[rangeSize_one];split<;>lia
  show IsRangeIter _ _ _ _ 1;rw[a,i];exact ä _ rfl
 .have e:b=(s.heap.push {cls:=.type "range",data:=.fields #[.int lo t,.int hi u,.int 1 v]}).objs.size:=by simpa using h
  subst e;exact I1.fpOk (à _) (I1.hok.fresh (à _))
def R7(d:TA):TI:=λσ H R=>d σ H λb a=> ∃j:Int,b=[.int j]/\ -(2 ^ 62)<=j/\j<2 ^ 62/\R (zAD 0 j.toNat) a
theorem Hx(d:Gl X "range")(hm:X.mg "range"=none)(i:PA X [a] ta)(hs:starEach [a] X.env=[(false,eval a X.env)]:=by rfl):PI X tg (.Call (.Name "range" p) [a] [] pos) (R7 ta):=by
 intro pins s σ H R I h;refine Call_ (JA I d hm boot_range (ğ (kL (i pos pins s σ H _ I h) λm s1 ⟨o,n,I1,k,b⟩=>?_) hs rfl));obtain⟨j,e,b,f,q⟩:=b;subst e
 cases k with
 |cons r rr=>
  cases rr;obtain⟨t,rfl⟩:=r;exact call_range_1 (Kv I1 #[0] #[0] b f (by simpa using q))
def tFor(f:TI)(g:TG)(j:TS):TS:=λD σ H=>f σ H λJ h=> ∃W:Nat->Nat->St->Hp->Prop,(∃m,W 0 m σ h)/\ ∀i m σ H,W i m σ H->
 (J.stop i H/\D.nx σ H)\/(J.go i H/\ ∃N:St->Hp->Prop,(∀a H',N a H'-> ∃d,d<m/\W (i+1) d a H')/\ ∀x H',J.yld i H x H'->g x σ H' λb e=>j {D with nx:=N,ct:=N,bk:=D.nx} b e)
noncomputable def GA(fp:B9)(h:Heap):List (Addr×Obj):=fp.filterMap λb=>(h.get? b).map λo=>(b,o)
def vE(a:b∈fp)(e:h.get? b=some o):(b,o)∈GA fp h:=List.mem_filterMap.mpr ⟨b,a,by rw[e];rfl⟩
def Hy(a:p∈GA fp h):p.1∈fp/\h.get? p.1=some p.2:=by
 obtain⟨b,d,e⟩:=List.mem_filterMap.mp a
 cases q:h.get? b with
 |none=>rw[q]at e;cases e
 |some o=>
  rw[q]at e;have f:_=p:=å e;subst f;exact⟨d,q⟩
def Inv.pinned(I:↑1)(h: ∀b∈fp,pE X pins H b)(n: ∀b∈fp, ∃o,s.heap.get? b=some o/\ ∀v,o.data≠.cell v):Inv X (pins++GA fp s.heap) σ H s:=
 I.pins_of λp k=>(ê.mp k).elim (λz=>I.pin p (î _ z)) λz=>by obtain⟨f,e⟩:=Hy z;obtain⟨i,m,j,_⟩:=h p.1 f;obtain⟨o,a,d⟩:=n p.1 f;rw[e]at a;cases a;exact⟨e,i,m,j,d⟩
def Inv.unpinned(I:Inv X (pins++pl) σ H s):Inv X pins σ H s:=I.pins_of λp a=>I.pin p (î _ (ÿ _ a))
def Yr(F:PassesOwn ↑6 X.A X.env X.xe)(Z:X.calm=true)(hi:PI X tg iter wi)(hg:PG X tg g)(y:PSs X body tb)
  (hs: ∀x,foldedSetIterable iter X.env x=pure x:=by intro _;rfl):PS X (.For tg iter body [] pos) (tFor wi g tb):=by
 intro pins s σ H D I h;refine wpAny_For (kL (hi pins s σ H _ I h) λv s1 h1=>kL h1 λaa s2 h2=>?_) hs;obtain⟨it,fp,tn,J,H2,e,I2,T,U,f2,W,⟨m0,w0⟩,G⟩:=h2;subst e;have q: ∀{H':Hp},(∀b∈fp,H' b=none)-> ∀b∈fp,pE X pins H' b:=λhn b y=>⟨hn b y,(f2 b y).2⟩
 refine codeAny_forLoop_any (λn Y=> ∃i j H',Inv X pins j H' Y/\tn i Y.heap/\(∀b∈fp,H' b=none)/\W i n j H') ?_ m0 ⟨0,σ,H2,I2,U,λb y=>(f2 b y).1,w0⟩;rintro n s3 ⟨i,k,L,I3,K,C,w3⟩;rcases G i n k L w3 with⟨stop,qn⟩|⟨go,N,hN,step⟩
 .refine wpAny_passesOwn F (kL (T.done X rfl rfl rfl Z i pins s3 k L X.xe I3 (q C) K stop) λr s4 ⟨M,I4⟩=>?_);subst M;exact İ ⟨k,L,I4,qn⟩
 .refine wpAny_passesOwn F (kL (T.item X rfl rfl rfl Z i pins s3 k L X.xe I3 (q C) K go) λr s4 ⟨u,M,h4⟩=>?_);subst M;refine wpAny_passesOwn F (kL h4 λ_ s5 ⟨x,H5,I5,r5,y5,B,O⟩=>?_);have P:=I5.pinned (q O) (T.obj _ _ B);refine wpAny_passesOwn F (kL (hg _ s5 k H5 x u _ P r5 (step x H5 y5)) λ_ s6 ⟨S,H6,I6,q6⟩=>?_);refine wpAny_passesOwn F (kL (y _ s6 S H6 _ I6 q6) λf Q z=>?_);have p: ∀{a:St}{H7:Hp},Inv X _ a H7 Q->N a H7-> ∃m,m<n/\ ∃i j H',Inv X pins j H' Q/\tn i Q.heap/\(∀b∈fp,H' b=none)/\W i m j H':=λ{a H7} t E=>by obtain⟨m',hm,w7⟩:=hN a H7 E;refine⟨m',hm,_,a,H7,t.unpinned,T.keep _ _ _ B λb y o e=>(t.pin (b,o) (î _ (î _ (vE y e)))).1,λb y=>?_,w7⟩;obtain⟨o,e,d⟩:=T.obj _ _ B b y;exact(t.pin (b,o) (î _ (î _ (vE y e)))).2.1
  cases f with
  |next=>obtain⟨a,H7,t,E⟩:=z;exact p t E
  |cont=>obtain⟨a,H7,t,E⟩:=z;exact p t E
  |brk=>obtain⟨a,H7,t,z⟩:=z;exact⟨a,H7,t.unpinned,z⟩
  |ret v=>obtain⟨x7,a,H7,t,r7,z⟩:=z;exact⟨x7,a,H7,t.unpinned,r7,z⟩
end
abbrev R2:=V->V->Hp->VK->Prop
def OpR(X:Cx)(f:ĵ->ĵ->Sem ĵ)(r:R2):Prop:=
 ∀(pins:L1)(s:Ĵ)(σ:St)(H:Hp)(x y:V)(v u:ĵ)(Q:VK),Inv X pins σ H s->RelV x v->RelV y u->r x y H Q->
  wpAny ↑6 X.A (f v u) (EP X pins σ Q) X.xe s
def UnR(X:Cx)(f:ĵ->Sem ĵ)(r:V->Hp->VK->Prop):Prop:=
 ∀(pins:L1)(s:Ĵ)(σ:St)(H:Hp)(x:V)(v:ĵ)(Q:VK),Inv X pins σ H s->RelV x v->r x H Q->
  wpAny ↑6 X.A (f v) (EP X pins σ Q) X.xe s
def CallR(X:Cx)(f:ĵ)(r:List V->Hp->VK->Prop):Prop:=
 ∀(pins:L1)(s:Ĵ)(σ:St)(H:Hp)(xs:List V)(a:A0)(Q:VK),Inv X pins σ H s->Vals xs a->r xs H Q->
  wpAny ↑6 X.A (call f a) (EP X pins σ Q) X.xe s
def TruR(X:Cx)(r:V->Hp->(Bool->Hp->Prop)->Prop):Prop:=
 ∀(pins:L1)(s:Ĵ)(σ:St)(H:Hp)(x:V)(v:ĵ)(Q:Bool->Hp->Prop),Inv X pins σ H s->RelV x v->r x H Q->
  wpAny ↑6 X.A (truthy v) (TP X pins σ Q) X.xe s
def zAE(r:R2)(e d:TE):TE:=λσ H Q=>e σ H λx b=>d σ b λy a=>r x y a Q
def tUn(r:V->Hp->VK->Prop)(b:TE):TE:=λσ H Q=>b σ H λx a=>r x a Q
def rI(C:Int->Int->Prop)(g:Int->Int->V):R2:=λx y H Q=> ∃i j,x=.int i/\y=.int j/\C i j/\Q (g i j) H
def Ro(g:Int->Int->V):R2:=λx y H Q=> ∃i j,x=.int i/\y=.int j/\Q (g i j) H
def rU(g:Int->V):V->Hp->VK->Prop:=λx H Q=> ∃i,x=.int i/\Q (g i) H
section
def Ys(r:PE X a ta)(p:PE X b tb){R:V->V->Hp->Prop}(I:↑1)
  (h:ta σ H λx k=>tb σ k λy d=>R x y d)  {f:ĵ->ĵ->Sem ĵ}
  (hf: ∀v u j x y d,Inv X pins σ d j->RelV x v->RelV y u->R x y d->wpAny ↑6 X.A (f v u) Q X.xe j):
  wpAny ↑6 X.A (eval a X.env) (λv e=>wpAny ↑6 X.A (eval b X.env) (λu i=>wpAny ↑6 X.A (f v u) Q X.xe i) X.xe e) X.xe s:=by
 refine kL (r pins s σ H _ I h) λv s1 ⟨x,k,I1,n,q⟩=>?_;refine kL (p pins s1 σ k _ I1 q) λu j ⟨y,d,t,m,o⟩=>?_;exact hf v u j x y d t n m o
def R8(f:OpR X (binaryOp op) r)(j:PE X a ta)(i:PE X b tb):PE X (.BinOp a op b pos) (zAE r ta tb):=by intro pins s σ H Q I h;exact wpAny_BinOp (Ys j i I h λv u m x y n k e d q=>f pins m σ n x y v u Q k e d q)
def Wl(i:UnR X (unaryOp op) r)(e:PE X a ta):PE X (.UnaryOp op a pos) (tUn r ta):=by intro pins s σ H Q I h;exact UnaryOp_ (kL (e pins s σ H _ I h) λv s1 ⟨x,b,I1,f,d⟩=>i pins s1 σ b x v Q I1 f d)
def zAF{g:Int->Int->Int}
  (rule: ∀ i j  t u  s  Q  E ,C i j->Q (.int (g i j) s.toks) {s with toks:=s.toks+1}->wpAny ↑6 X.A (f (.int i t) (.int j u)) Q E s):
  OpR X f (rI C λi j=>.int (g i j)):=by
 intro pins s σ H x y v u Q I d a h;obtain⟨i,j,rfl,rfl,e,q⟩:=h;obtain⟨t,rfl⟩:=d;obtain⟨b,rfl⟩:=a;exact rule i j t b s _ _ e ⟨.int _,H,I.tok _,⟨_,rfl⟩,q⟩
def R9{g:Int->Int->Int}
  (rule: ∀ i j  t u  s  Q  E ,Q (.int (g i j) s.toks) {s with toks:=s.toks+1}->wpAny ↑6 X.A (f (.int i t) (.int j u)) Q E s):
  OpR X f (Ro λi j=>.int (g i j)):=by
 intro pins s σ H x y v u Q I d a h;obtain⟨i,j,rfl,rfl,q⟩:=h;obtain⟨t,rfl⟩:=d;obtain⟨b,rfl⟩:=a;exact rule i j t b s _ _ ⟨.int _,H,I.tok _,⟨_,rfl⟩,q⟩
def S7{g:Int->Int->Bool}
  (rule: ∀ i j  t u  s  Q  E ,Q (.bool (g i j)) s->wpAny ↑6 X.A (f (.int i t) (.int j u)) Q E s):
  OpR X f (Ro λi j=>.bl (g i j)):=by
 intro pins s σ H x y v u Q I d a h;obtain⟨i,j,rfl,rfl,q⟩:=h;obtain⟨t,rfl⟩:=d;obtain⟨b,rfl⟩:=a;exact rule i j t b s _ _ ⟨.bl _,H,I,rfl,q⟩
def CMul(i j:Int):Prop:=(-(2 ^ 64)<i/\i<2 ^ 64)\/(-(2 ^ 64)<j/\j<2 ^ 64)
def CMul.ok(h:CMul i j):IntMulOk i j:=by
 rcases h with⟨h1,h2⟩|⟨h1,h2⟩
 .exact .of_left (intBits_le_64 h1 h2)
 .exact .of_right (intBits_le_64 h1 h2)
def Yt:OpR X (binaryOp .Add) (Ro λi j=>.int (i+j)):=R9 λ_ _ _ _ _ _ _ q=>add_int q
def Yu:OpR X (binaryOp .Sub) (Ro λi j=>.int (i - j)):=R9 λ_ _ _ _ _ _ _ q=>sub_int q
theorem Yv:OpR X (binaryOp .Mod) (rI (λ_ j=>0<j) λi j=>.int (i % j)):=zAF λi j _ _ _ _ _ a q=>by have b:_<j:=a;exact mod_int' #[0] (by rw[Int.fmod_eq_emod_of_nonneg i #[0]];exact q)
def unI{g:Int->Int}
  (rule: ∀ i  t  s  Q  E ,Q (.int (g i) s.toks) {s with toks:=s.toks+1}->wpAny ↑6 X.A (f (.int i t)) Q E s):
  UnR X f (rU λi=>.int (g i)):=by
 intro pins s σ H x v Q I a h;obtain⟨i,rfl,q⟩:=h;obtain⟨t,rfl⟩:=a;exact rule i t s _ _ ⟨.int (g i),H,I.tok _,⟨_,rfl⟩,q⟩
def Kw:UnR X (unaryOp .USub) (rU λi=>.int (-i)):=unI λ_ _ _ _ _ q=>neg_int q
end
section
variable{b c:Expr}
def UE(I:↑1)(q:Q (.bl k) H)(e:k=k'):EP X pins σ Q (.bool k') s:=by subst e;exact⟨.bl k,H,I,rfl,q⟩
def RO:OpR X (compareOp .LtE) (Ro λi j=>.bl (decide (i<=j))):=S7 λ_ _ _ _ _ _ _ q=>le_int q
def Wm:OpR X (compareOp .Gt) (Ro λi j=>.bl (decide (j<i))):=S7 λ_ _ _ _ _ _ _ q=>gt_int q
def Hz:OpR X (compareOp .In) (λx y H Q=> ∃i j,x=.str i/\y=.str j/\Q (.bl (!(Builtin.Str.occurrences j i 0 j.length 1).isEmpty)) H):=by intro pins s σ H x y v u Q I b a h;obtain⟨i,j,rfl,rfl,q⟩:=h;obtain⟨t,rfl⟩:=b;obtain⟨d,rfl⟩:=a;exact in_str (UE I q rfl)
def Ky:OpR X (compareOp .Is) (λx y H Q=>y=.non/\Q (.bl (decide (x=.non))) H):=by
 intro pins s σ H x y v u Q I a b h;obtain⟨rfl,q⟩:=h;cases b;refine is_none_gen (UE I q ?_)
 cases x<;>first
  |(cases a;rfl)
  |(obtain⟨t,rfl⟩:=a;rfl)
def Rp:OpR X (compareOp .IsNot) (λx y H Q=>y=.non/\Q (.bl (!decide (x=.non))) H):=by
 intro pins s σ H x y v u Q I a b h;obtain⟨rfl,q⟩:=h;cases b;refine isnot_none_gen (UE I q ?_)
 cases x<;>first
  |(cases a;rfl)
  |(obtain⟨t,rfl⟩:=a;rfl)
def UF:OpR X (compareOp .NotIn) (λx y H Q=> ∃i j,x=.str i/\y=.str j/\Q (.bl (!(!(Builtin.Str.occurrences j i 0 j.length 1).isEmpty))) H):=by intro pins s σ H x y v u Q I b a h;obtain⟨i,j,rfl,rfl,q⟩:=h;obtain⟨t,rfl⟩:=b;obtain⟨d,rfl⟩:=a;exact notIn_str (UE I q rfl)
def OpR.or(h:OpR X f r)(h':OpR X f r'):OpR X f (λx y H Q=>r x y H Q\/r' x y H Q):=by
 intro pins s σ H x y v u Q I b a q;rcases q with q|q
 .exact h pins s σ H x y v u Q I b a q
 .exact h' pins s σ H x y v u Q I b a q
def Kz(b)(h:op≠.In:=by decide)(a:op≠.NotIn:=by decide):behindInMarks op b=false:=by
 have d:(op==CmpOp.In)=false:=by cases op<;>first |rfl|exact absurd rfl h
 have e:(op==CmpOp.NotIn)=false:=by cases op<;>first |rfl|exact absurd rfl a
 cases b<;>simp[behindInMarks,d,e]
def Rq(f:OpR X (compareOp op) r)(j:PE X a ta)(i:PE X b tb)(hm:behindInMarks op b=false):PE X (.Compare a [op] [b] pos) (zAE r ta tb):=by intro pins s σ H Q I h;exact wpAny_Compare1 (Ys j i I h λv u m x y n k e d q=>f pins m σ n x y v u Q k e d q) hm
def Wn(t:TE):TT:=λσ H Q=>t σ H λx H'=> ∃k,x=.bl k/\Q k H'
def Rr(p:OpR X (compareOp op) r)(A:PE X a ta)(q:PE X b tb)(hm:behindInMarks op b=false):PT X (.Compare a [op] [b] pos) (Wn (zAE r ta tb)):=by
 intro pins s σ H Q I h
 refine wpAny_isTrue_Compare1 (kL (A pins s σ H _ I h) λv s1 ⟨x,t,I1,B,w⟩=>kL (q pins s1 σ t _ I1 w) λu C ⟨y,D,f,m,o⟩=>
  kL (p pins C σ D x y v u _ f B m o) λc E ⟨z,n,j,i,k,e,d⟩=>?_) hm
 subst e;cases i;exact Ć ⟨n,j,d⟩
def Bj(r d:R2)(m h i:TE):TE:=λσ H Q=>m σ H λx f=>h σ f λy b=>r x y b λz a=> ∃k,z=.bl k/\
 (if k=true then i σ a λj e=>d y j e Q else Q (.bl false) a)
def La(S:OpR X (compareOp op) r)(f:OpR X (compareOp op') r')(O:PE X a ta)(M:PE X b tb)(q:PE X c tc)
  (hm:lastMarks [op,op'] [b,c]=false:=by with_unfolding_all rfl):PE X (.Compare a [op,op'] [b,c] pos) (Bj r r' ta tb tc):=by
 intro pins s σ H Q I h
 refine Compare_chain (kL (O pins s σ H _ I h) λv s1 ⟨x,N,I1,t,D⟩=>chain_link (kL (M pins s1 σ N _ I1 D) λu F ⟨y,G,P,m,w⟩=>
  kL (S pins F σ G x y v u _ P t m w) λd B ⟨z,n,j,p,k,e,i⟩=>?_)) hm
 subst e;cases p;refine Ć ?_
 cases k with
 |false=>exact ite_ff ⟨.bl false,n,j,rfl,i⟩
 |true=>exact ite_tt (chain_last (kL (q pins B σ n _ j i) λE C ⟨K,L,J,o,A⟩=>f pins C σ L y K u E Q J m o A))
def Lb(ho:OpR X (compareOp op) r)(f:OpR X (compareOp op') r')(Y:PE X a ta)(T:PE X b tb)(A:PE X c tc)
  (hm:lastMarks [op,op'] [b,c]=false:=by with_unfolding_all rfl):PT X (.Compare a [op,op'] [b,c] pos) (Wn (Bj r r' ta tb tc)):=by
 intro pins s σ H Q I h
 refine isTrue_chain (kL (Y pins s σ H _ I h) λv s1 ⟨x,U,I1,B,J⟩=>test_link (kL (T pins s1 σ U _ I1 J) λu L ⟨y,M,Z,m,C⟩=>
  kL (ho pins L σ M x y v u _ Z B m C) λd F ⟨z,n,j,t,k,e,i⟩=>?_)) hm
 subst e;cases t;refine Ć ?_
 cases k with
 |false=>
  obtain⟨k',D,w⟩:=i;cases D;exact ite_ff ⟨n,j,w⟩
 |true=>
  refine ite_tt (test_last (kL (A pins F σ n _ j i) λK G ⟨O,P,N,p,E⟩=>kL (f pins G σ P y O u K _ N m p E) λd' s5 ⟨z2,H5,o,S,k2,W,q⟩=>?_));subst W;cases S;exact Ć ⟨H5,o,q⟩
def Yw(K:P0)(x:V)(H:Hp)(k:Bool):Prop:=
 match x with
 |.non=>k=false
 |.bl b=>k=b
 |.int i=>k=(i !=0)
 |.str y=>y.length<=sizeLine/\k=((y.length:Int) !=0)
 |.byt y=>y.size<=sizeLine/\k=((y.size:Int) !=0)
 |.ref p=>(∃xs,SqL K H p xs/\k= !xs.isEmpty)\/(∃xs,SqT K H p xs/\k= !xs.isEmpty)\/ ∃a,H p=some (.dK a)/\k= !a.isEmpty
 |_=>False
theorem Bk{a:List (κ×ĵ)}(r:KV kvs a):(!a.isEmpty)= !kvs.isEmpty:=by cases r<;>rfl
def NP(r:Vals xs its):(!its.toArray.isEmpty)= !xs.isEmpty:=by cases r<;>simp
def GB: sizeLine <2 ^ 63:=by rw[ý];decide
theorem Yx:TruR X (λx H Q=> ∃k,Yw X.K x H k/\Q k H):=by
 intro pins s σ H x v Q I j h;obtain⟨k,e,q⟩:=h;have B:=GB;have hs:=ý
 cases x with
 |non=>
  cases j;have a:=e;subst a;exact truthy_none ⟨H,I,q⟩
 |bl b=>
  cases j;have a:=e;subst a;exact Ć ⟨H,I,q⟩
 |int i=>
  obtain⟨t,rfl⟩:=j;have a:k=_:=e;subst a;exact PySem.P.truthy_int ⟨H,I,q⟩
 |str y=>
  obtain⟨t,rfl⟩:=j;obtain⟨A,a⟩:y.length<=sizeLine/\k=_:=e;subst a;exact PySem.P.truthy_str #[0] ⟨H,I.tok _,q⟩
 |byt y=>
  obtain⟨t,rfl⟩:=j;obtain⟨A,a⟩:y.size<=sizeLine/\k=_:=e;subst a;exact PySem.W.truthy_bytes #[0] ⟨H,I.tok _,q⟩
 |ref p=>
  cases j;have a:_\/_\/ ∃d,H p=some (.dK d)/\k= !d.isEmpty:=e;rcases a with⟨xs,hx,a⟩|⟨xs,hx,a⟩|⟨d,hx,a⟩
  .subst a;obtain⟨o,r,u,w⟩:=I.list hx;have f:=r.length;exact wpAny_truthy_list u.isList (by simp only[sA];lia) ⟨H,I.tok _,by rw[NP r];exact q⟩
  .subst a;obtain⟨o,r,u,w⟩:=I.tuple hx;have f:=r.length;exact truthy_tuple u (by simp only[sA];lia) ⟨H,I.tok _,by rw[NP r];exact q⟩
  .subst a;obtain⟨w,z,n,r,m⟩:d.length<=sizeLine/\_=false/\ ∃n,KV d n/\s.heap.DictOf _ p n:=I.hok p _ hx;have f:d.length=n.length:=Paired.length r;exact wpAny_truthy_dict z m #[0] ⟨H,I.tok _,by rw[Bk r];exact q⟩
 |_=>exact e.elim
def Lc(i:PE X a ta)(d: ∀b,isTrue a X.env b=(do let v <-b;standAt a.pos;holding [v] (truthy v))):
  PT X a (λσ H Q=>ta σ H λx H'=> ∃k,Yw X.K x H' k/\Q k H'):=by
 intro pins s σ H Q I h;exact isTrue_plain (kL (i pins s σ H _ I h) λv s1 ⟨x,e,I1,j,f⟩=>Yx pins s1 σ e x v Q I1 j f) (d _)
def Bl:OpR X (binaryOp .Add) (λx y H Q=> ∃i j,x=.str i/\y=.str j/\i.length+j.length<=sizeLine/\Q (.str (i++j)) H):=by intro pins s σ H x y v u Q I d a h;obtain⟨i,j,rfl,rfl,e,q⟩:=h;obtain⟨t,rfl⟩:=d;obtain⟨b,rfl⟩:=a;exact add_str (λb f=>⟨.str _,H,I.tok _,⟨_,rfl⟩,q⟩) e
def vals1(r:Vals [x] us): ∃u,us=[u]/\RelV x u:=by
 cases r with
 |cons r1 r2=>cases r2;exact⟨_,rfl,r1⟩
def vals2(r:Vals [x,y] us): ∃u a,us=[u,a]/\RelV x u/\RelV y a:=by
 cases r with
 |cons r1 r2=>
  cases r2 with
  |cons r3 r4=>cases r4;exact⟨_,_,rfl,r1,r3⟩
def Ld:CallR X (.builtin "abs") (λxs H Q=> ∃i,xs=[.int i]/\Q (.int (if i<0 then -i else i)) H):=by intro pins s σ H xs a Q I r h;obtain⟨i,rfl,q⟩:=h;obtain⟨u,rfl,t,rfl⟩:=vals1 r;exact call_abs_int λu b=>⟨.int (if i<0 then -i else i),H,I.tok _,⟨_,rfl⟩,q⟩
def Ia:CallR X (.type "int") (λxs H Q=>(∃i,xs=[.int i]/\Q (.int i) H)\/ ∃k,xs=[.bl k]/\Q (.int (if k then 1 else 0)) H):=by
 intro pins s σ H xs b Q I r h;rcases h with⟨i,rfl,q⟩|⟨k,rfl,q⟩
 .obtain⟨u,rfl,t,rfl⟩:=vals1 r;exact call_int_int ⟨.int i,H,I,⟨_,rfl⟩,q⟩
 .obtain⟨u,rfl,a⟩:=vals1 r;cases a;exact call_int_bool ⟨.int (if k then 1 else 0),H,I.tok _,⟨_,rfl⟩,q⟩
def UG:CallR X (.type "str") (λxs H Q=> ∃i,xs=[.int i]/\i.natAbs.log2<1920/\Q (.str (toString i)) H):=by intro pins s σ H xs b Q I r h;obtain⟨i,rfl,a,q⟩:=h;obtain⟨u,rfl,t,rfl⟩:=vals1 r;exact PySem.P.str_of_int a ⟨.str _,H,I.tok _,⟨_,rfl⟩,q⟩
end
structure Cls(K:P0)(C:Addr):Prop where
 pg:PySem.W.plainGet K C Str.empty=true
 hd:PySem.W.hasDictIn K C=true
 po:PySem.W.plainOver K C=true
 sa:PySem.W.findIn K (.ref C) "__setattr__"=some (some (.builtin "object.__setattr__"))
structure Meth(K:P0)(C:Addr)(m:Str)(f:Addr):Prop where
 at_:PySem.W.findIn K (.ref C) m=some (some (.ref f))
 fn:PySem.W.isFn K (.ref f)=true
 kp:PySem.W.keepIn K (.ref f)=true
structure Room(k:Nat)(A:Around):Prop where
 hd:A.handled=none
 dp:A.depth+3 * k+5<recursionLimit
 un:A.units+16 * k+200<cLine
theorem Room.mono(r:Room k A)(h:j<=k):Room j A:=⟨r.hd,by have:=r.dp;lia,by have:=r.un;lia⟩
theorem Room.deeper(r:Room (k+1) A)(env):Room k (A.deeper env):=
 ⟨r.hd,by have:=r.dp;show A.depth+1+3 * k+5<_;lia,by have:=r.un;show A.units+3+16 * k+200<_;lia⟩
theorem Room.in1(r:Room (k+1) A):Room k A.in1:=
 ⟨r.hd,by have:=r.dp;show A.depth+3 * k+5<_;lia,by have:=r.un;show A.units+1+16 * k+200<_;lia⟩
def Bm{A:Around}:(A.under (.builtin "type.__call__" ⟨.ref C::us,kw⟩)).depth=A.depth+1:=by
 first |rfl|simp[Code.weight]
def Bn{A:Around}:(A.under (.builtin "type.__call__" ⟨.ref C::us,kw⟩)).units=A.units+1:=by
 first |rfl|simp[Code.cUnits]
theorem Room.make(r:Room (k+1) A)(C)(us)(kw):Room k (A.under (.builtin "type.__call__" ⟨.ref C::us,kw⟩)):=
 ⟨r.hd,by have:=r.dp;rw[Bm];lia,by have:=r.un;rw[Bn];lia⟩
def Room.depth(r:Room k A):A.depth<recursionLimit:=by have:=r.dp;omega
def Room.units(r:Room k A):A.units+64<cLine:=by have:=r.un;omega
def tNil:TA:=λ_ H Q=>Q [] H
def S9(d:TE)(tr:TA):TA:=λσ H Q=>d σ H λx b=>tr σ b λxs a=>Q (x::xs) a
section
variable{e:Expr}{pos:Pos}
def JB:PA X [] tNil:=λ_ _ _ _ H Q I h=>Calls.spliced_nil ⟨[],H,I,.nil,h⟩
abbrev q8(X:Cx)(e:Expr)(es:List Expr):Prop:=starEach (e::es) X.env=(false,eval e X.env)::starEach es X.env
def oP(k:PE X e te)(a:PA X es t)(hs:q8 X e es:=by rfl):PA X (e::es) (S9 te t):=by intro pos pins s σ H Q I h;rw[hs];show wpAny _ _ _ _ _ s;refine Calls.spliced_cons (kL (k pins s σ H _ I h) λu s1 ⟨x,i,I1,d,j⟩=>?_);exact kL (a pos pins s1 σ i _ I1 j) λo p ⟨xs,n,m,b,f⟩=>⟨_,n,m,.cons d b,f⟩
def tTup(t:TA):TE:=λσ H Q=>t σ H λxs a=>xs.length<=sizeLine/\ ∀p,a p=none->Q (.ref p) (jL a p (.tup xs))
def tLst(t:TA):TE:=λσ H Q=>t σ H λxs a=>xs.length<=sizeLine/\ ∀p,a p=none->Q (.ref p) (jL a p (.lst xs))
def Yy(h:PA X es t):PE X (.Tuple es x1 pos) (tTup t):=by intro pins s σ H Q I f;refine wpAny_Tuple_spliced (kL (h pos pins s σ H _ I f) λa s1 ⟨xs,i,I1,r,z,q⟩=>⟨by rw[<-r.length];exact z,?_⟩);have d:=I1.hok.fresh (à _);refine⟨.ref s1.heap.objs.size,_,I1.laid (λb u e=>hP0 _ e) (à _) ?_,rfl,q _ d⟩;exact⟨z,a,r,⟨_,ä _ rfl,rfl,_,rfl⟩⟩
def Yz(h:PA X es t):PE X (.List es pos) (tLst t):=by intro pins s σ H Q I f;refine wpAny_List_spliced (kL (h pos pins s σ H _ I f) λa s1 ⟨xs,i,I1,r,z,q⟩=>⟨by rw[<-r.length];exact z,?_⟩);have d:=I1.hok.fresh (à _);refine⟨.ref s1.heap.objs.size,_,I1.laid (λb u e=>hP0 _ e) (à _) ?_,rfl,q _ d⟩;exact⟨z,a,0,r,ä _ rfl⟩
end
abbrev Sp:=List V->Hp->VK->XK->Prop
abbrev Ib:=List Env->Hp->Shared->XK->VP
structure Env0(P:Ķ)(w:World)(K:P0)(mg:K0)(base:Heap)(A:Around)(outer:List Env)(s:Ĵ)(H:Hp):Prop where
 frames:A.frames=some outer
 mod:Mod K mg base
 bs: ∀b o,base.get? b=some o->s.heap.get? b=some o/\H b=none
 bsz:base.objs.size<=↑0
 funs:s.heap.FunFrames base outer
 frf: ∀b∈LB outer,H b=none
 hok:HOk P w H s.heap
 bare:AllBare s.gens
def CE(outer:List Env)(P:Ķ)(w:World)(H:Hp)(s:Ĵ)(Q:VK)(u:ĵ)(a:Ĵ):Prop:=
 ∃v H',a.os=s.os/\AllBare a.gens/\Un (LB outer) [] H H' s.heap a.heap/\HOk P w H' a.heap/\RelV v u/\Q v H'
def CR(CX:Ib)(outer:List Env)(P:Ķ)(w:World)(H:Hp)(s:Ĵ)(Q:VK)(E:XK)(r:Result)(a:Ĵ):Prop:=
 match r with
 |.ok (.ret u)=>CE outer P w H s Q u a
 |.ok _=>False
 |.error e=>CX outer H s E e a
structure FnOk(P:Ķ)(w:World)(K:P0)(mg:K0)(base:Heap)(CX:Ib)(k:Nat)(f:Addr)(fd:FuncData)(ps:C0)(sp:Sp):Prop where
 len: ∀vs H Q E,sp vs H Q E->vs.length=ps.length
 run: ∀(A:Around)(outer:List Env)(s:Ĵ)(H:Hp)(args:Args)(us:A0)(vs:List V)(Q:VK)(E:XK),Room k A->Env0 P w K mg base A outer s H->BindsTo s fd args (ps.zip us)->Vals vs us->sp vs H Q E->
  codeAny (model P w) A (.call (.ref f) args) (CR CX outer P w H s Q E) s
def FnOk.imp{K:P0}(F:FnOk P w K mg base CX k f fd ps sp)
  (h: ∀b H Q E,sp' b H Q E->sp b H Q E):FnOk P w K mg base CX k f fd ps sp':=
 ⟨λb H Q E q=>F.len b H Q E (h _ _ _ _ q),λA a s H d i b Q E j e m n hs=>F.run A a s H d i b Q E j e m n (h _ _ _ _ hs)⟩
def Env0.make{K:P0}(e:Env0 P w K mg base A outer s H)(C)(us)(kw):
  Env0 P w K mg base (A.under (.builtin "type.__call__" ⟨.ref C::us,kw⟩)) outer s H:=⟨by first |exact e.frames|(simpa [Around.under,Code.envs,Code.isFrame,pushEnvs]using e.frames),e.mod,e.bs,e.bsz,e.funs,e.frf,e.hok,e.bare⟩
def Env0.in1{K:P0}(e:Env0 P w K mg base A outer s H):
  Env0 P w K mg base A.in1 outer s H:=⟨e.frames,e.mod,e.bs,e.bsz,e.funs,e.frf,e.hok,e.bare⟩
section
def Inv.env0(I:↑1):Env0 X.prog X.w X.K X.mg X.base X.A X.stack s H:=
 ⟨I.ok.frames,I.ok.mod,I.bs,ç I.ok.bsz I.sz,I.stack,I.stkFree,I.hok,I.bare⟩
def Inv.after(I:↑1)(h:CE X.stack X.prog X.w H s Q u s'):EP X pins σ Q u s':=by obtain⟨v,H',os,bare,un,a,r,q⟩:=h;obtain⟨f,g,d,t,e⟩:=s';obtain rfl:e=s.os:=os;exact⟨v,H',I.call un a bare (λb z=>absurd z (by simp)),r,q⟩
end
def T2(sp:Sp)(a:List V)(E:XK)(t:TA):TE:=λσ H Q=>t σ H λd b=>sp (d++a) b Q E
def Binds(K:P0)(b:FuncData)(ps:C0)(ds:A0):Prop:=
 ∀(s:Ĵ)(a:A0),K.In s.heap->(a++ds).length=ps.length->BindsTo s b ⟨a,[]⟩ (ps.zip (a++ds))
def Binds.all{K:P0}(h: ∀a:List ĵ,a.length=ps.length->bindArgs fd ⟨a,[]⟩=pure (ps.zip a)):Binds K fd ps []:=λs a _ b=>by rw[aN]at b ⊢;exact .of_eq (h a b)
def JC(CX:Ib)(X:Cx)(E:XK):Prop:= ∀(pins:L1)(σ:St)(H:Hp)(s:Ĵ)(e:ĵ)(a:Ĵ),Inv X pins σ H s->CX X.stack H s E e a->X.xe e a
section
variable{p pos:Pos}{e:Expr}
def Zb(F:FnOk X.prog X.w X.K X.mg X.base CX k f fd ps sp)(n:Room k X.A)(j:Binds X.K fd ps ds)(d:Vals dvs ds)(i:JC CX X E)
  (I:↑1) (r:Vals vs us) (h:sp (vs++dvs) H Q E):wpAny ↑6 X.A (call (.ref f) us) (EP X pins σ Q) X.xe s:=by
 have b:Vals _ _:=r.append d;have o:(us++ds).length=ps.length:=by rw[<-b.length];exact F.len _ _ _ _ h
 refine wpAny_call (đ (F.run X.A X.stack s H ⟨us,[]⟩ _ _ Q E n I.env0 (j s us I.kIn o) b h) λr m a=>?_)
 cases r with
 |error e=>exact i pins σ H s e m I a
 |ok fl=>
  cases fl with
  |ret u=>exact I.after a
  |next=>exact False.elim a
  |brk=>exact False.elim a
  |cont=>exact False.elim a
abbrev q9(X:Cx)(p:Pos)(es:List Expr):Prop:=(backTo p (starEach es X.env)).any (·.1)=false
def UH(F:FnOk X.prog X.w X.K X.mg X.base CX k f fd ps sp)(d:Room k X.A)(a:Gl X x)(hm:X.mg x=some (.ref f))(b:PySem.W.keepIn X.K (.ref f)=true)(m:Binds X.K fd ps ds)(i:Vals dvs ds)(j:JC CX X E)
  (ha:PA X (e::es) t) (hdb:(x==("__debug__"))=false:=by decide) (he:q8 X e es:=by rfl) (hpl:q9 X pos es:=by rfl):
  PE X (.Call (.Name x p) (e::es) [] pos) (T2 sp dvs E t):=by
 intro pins s σ H Q I h;refine ı (rC I a hm ?_ hdb);refine PySem.W.callWith_K I.ok.mod.kin b (kL (ha pos pins s σ H _ I h) λn s1 ⟨u,o,I1,r,q⟩=>⟨I1.kIn,?_⟩) he hpl;exact Zb F d m i j I1 r q
end
structure FnScope(N P:C0)(sc:Scope):Prop where
 kind:sc.kind=.function
 co:sc.isCoroutine=false
 gen:sc.isGenerator=false
 nd:N.Nodup
 pre:N.take P.length=P
 par: ∀x∈P,sc.names.lookup x=some .local\/sc.names.lookup x=some .cell
 nofree: ∀y∈sc.names,y.2≠.free
def fsK{N:C0}{d:Scope}(h:N.Nodup/\N.take P.length=P/\(∀x∈P,d.names.lookup x=some .local\/d.names.lookup x=some .cell)/\∀y∈d.names,y.2≠.free)(a:d.kind=.function:=by rfl)(b:d.isCoroutine=false:=by rfl)(c:d.isGenerator=false:=by rfl):FnScope N P d:=⟨a,b,c,h.1,h.2.1,h.2.2.1,h.2.2.2⟩
theorem RP{a:Str->Option NameKind}: ∀{binds}{m},(∀v,(x,v)∉binds)->bindL a binds m x=m x
 |[],_,_=>rfl
 |(n,v)::r,m,h=>by
  unfold bindL;rw[RP λw hw=>h w (mO _ hw)];split
  .have:x≠n:=by rintro rfl;exact h v mF0
   simp[this]
  .rfl
theorem RQ{a:Str->Option NameKind}: ∀{binds}{m},(∀v,(x,v)∉binds)->bindC a binds m x=m x
 |[],_,_=>rfl
 |(n,v)::r,m,h=>by
  unfold bindC;rw[RQ λw hw=>h w (mO _ hw)];split
  .rfl
  .have:x≠n:=by rintro rfl;exact h v mF0
   simp[this]
theorem RS{a:Str->Option NameKind}: ∀{P:C0}{b}{i:Nat}{m},P.Nodup->P[i]? =some x->b[i]? =some v->a x=some .local->
  bindL a (P.zip b) m x=some v
 |[],_,_,_,_,h,_,_=>by simp at h
 |_::_,[],_,_,_,_,h,_=>by simp at h
 |p::P,w::b,0,m,nd,h1,h2,hk=>by simp at h1 h2;subst h1;subst h2;show bindL a (_::P.zip b) m p=_;unfold bindL;rw[RP λv d=>(nodup_cons.mp nd).1 (of_mem_zip d).1,iP hk];simp
 |p::P,w::b,i+1,m,nd,h1,h2,hk=>by show bindL a _ m x=_;unfold bindL;exact RS (nodup_cons.mp nd).2 (by simpa using h1) (by simpa using h2) hk
theorem RT{a:Str->Option NameKind}: ∀{P:C0}{b}{i:Nat}{m},P.Nodup->P[i]? =some x->b[i]? =some v->a x≠some .local->
  bindC a (P.zip b) m x=some v
 |[],_,_,_,_,h,_,_=>by simp at h
 |_::_,[],_,_,_,_,h,_=>by simp at h
 |p::P,w::b,0,m,nd,h1,h2,hk=>by simp at h1 h2;subst h1;subst h2;show bindC a (_::P.zip b) m p=_;unfold bindC;rw[RQ λv d=>(nodup_cons.mp nd).1 (of_mem_zip d).1,iN0 hk];simp
 |p::P,w::b,i+1,m,nd,h1,h2,hk=>by show bindC a _ m x=_;unfold bindC;exact RT (nodup_cons.mp nd).2 (by simpa using h1) (by simpa using h2) hk
noncomputable def start(N:C0)(a:List V):St:=a.map some++List.replicate (N.length - a.length) none
noncomputable def LZ(CX:Ib)(P:Ķ)(w:World)(K:P0)(mg:K0)(base:Heap)(N:C0)(qual:Str)(scope:Scope)(f:Addr)(cd:ĵ)(A:Around)(outer:List Env)(s:Ĵ)(H:Hp)(E:XK):Cx where
 prog:=P
 w:=w
 K:=K
 mg:=mg
 base:=base
 A:=A.deeper (envOfC qual scope ↑0 f cd)
 N:=N
 s₀:=s
 H₀:=H
 env:=envOfC qual scope ↑0 f cd
 outer:=outer
 stack:=envOfC qual scope ↑0 f cd::outer
 ex:=[]
 calm:=true
 fn:=λ_=>true
 pn:=[]
 xe:=λe s'=>wpAny (model P w) (A.deeper (envOfC qual scope ↑0 f cd)) (leaving (envOfC qual scope ↑0 f cd) e) (λ_ s''=>CX outer H s E e s'') (λe' s''=>CX outer H s E e' s'') s'
def YA{a:Scope}(h:a.names.lookup x=some .cell): ∃c,(cellsFrom n a.names []).lookup x=some c:=by have q:=PySem.W.cellsFrom_some a.names n [] (.inl h);exact č.mp q
theorem RU{K:P0}
  (S:FnScope N ps scope) (hd:A.handled=none) (e0:Env0 P w K mg base A outer s H) (hl:vs.length=ps.length) (r:Vals vs us)
  (x:InCallC s ↑0 (bindL (envOfC qual scope ↑0 f cd).kindOf (ps.zip us) λ_=>none) (cellsFrom (↑0+1) scope.names []) (bindC (envOfC qual scope ↑0 f cd).kindOf (ps.zip us) λ_=>none) s1):
  Inv (LZ CX P w K mg base N qual scope f cd A outer s H E) [] (start N vs) H s1:=by
 have F:=by have:=congrArg List.length S.pre;rw[lT]at this;omega
 obtain⟨t,I,rfl,B⟩:=x.done;have m: ∀b:Addr,b∉(LZ CX P w K mg base N qual scope f cd A outer s H E).ex:=λb z=>absurd (show b∈([]:B9)from z) (by simp)
 refine⟨⟨e0.mod,S.kind,rfl,rfl,à _,λy z c t d=>?_,λy j=>?_,λy c _ h=>?_,λ_=>hd,Around.frames_deeper e0.frames,.inr ⟨rfl,rfl⟩,λb z=>absurd z (m b),e0.bs,e0.bsz,λb _ _=>m b,λb z=>absurd z (m b),e0.funs,e0.frf⟩,
  rfl,e0.bare,Un.kept B,⟨_,x.toInCall.ns,λi y v t d J=>?_⟩,λy c h=>⟨_,x.cell y c h⟩,e0.hok.fresh (à _),λy c h=>?_,λp n=>absurd (show p∈([]:List _)from n) (by simp),e0.hok.kept B,?_⟩
 .exact name_of_addr x.apart (PySem.mem_of_lookup t) (PySem.mem_of_lookup d)
 .have j:=j;rcases j with j|j
  .exact YA j
  .exact absurd rfl (S.nofree _ (PySem.mem_of_lookup j))
 .exact le_of_lt (x.above y c (PySem.mem_of_lookup h))
 .have hi:i<vs.length:=by
   unfold start at d;by_cases hi:i<vs.length
   .exact hi
   .rw[â (by simpa using hi)]at d;rw[List.getElem?_replicate]at d;split at d<;>cases d
  have G:vs[i]? =some v:=by
   unfold start at d;rw[á (by simpa using hi),ü]at d
   cases e:vs[i]? with
   |none=>rw[e]at d;cases d
   |some a=>rw[e]at d;cases d;rfl
  obtain⟨u,C,D⟩:=r.get G;have n:ps[i]? =some y:=by rw[<-S.pre,Ī (by omega)];exact t
  have o:ps.Nodup:=by rw[<-S.pre];exact S.nd.sublist (List.take_sublist _ _)
  refine⟨u,D,?_⟩;rcases S.par y (ô n)with k|k
  .exact .inl ⟨k,RS o n C k⟩
  .obtain⟨c,e⟩:=YA k;refine .inr ⟨.inl k,c,e,?_⟩;have q:=x.cell y c e;rw[RT o n C (by show scope.names.lookup y≠_;rw[k];decide)]at q;exact q
 .exact e0.hok.fresh (le_of_lt (x.above y c (PySem.mem_of_lookup h)))
 .unfold start;show _=N.length;rw[lA,lM0,Č]
  lia
def Wo{K:P0}{kV:ĵ}
     (lk:K.lookup f=some ⟨oc,od,.func (PySem.W.fnOf name qual params body scope dV kV doc pm an cdv ct),osl⟩) (hcd:PySem.W.codeIn K cdv qual=true) (S:FnScope N ps scope)
  (len: ∀h H Q E,sp h H Q E->h.length=ps.length)
  (hbody: ∀ A  a  s  H  h  Q  E ,Room k (A.deeper (envOfC qual scope ↑0 f cdv))->sp h H Q E->
   ∃t,PSs (LZ CX P w K mg base N qual scope f cdv A a s H E) body t/\t {nx:=λ_ H'=>Q .non H',rt:=Q} (start N h) H):
  FnOk P w K mg base CX (k+1) f (PySem.W.fnOf name qual params body scope dV kV doc pm an cdv ct) ps sp:=by
 refine⟨len,λA a s H F G h Q E C p Z r m=>?_⟩;have T:=len _ _ _ _ m;have KX:=p.mod.kin.keeps λb o e=>(p.bs b o e).1;have D:=p.mod.nolimit.keeps λb o e=>(p.bs b o e).1
 have i: ∀y∈ps.zip G,scope.names.lookup y.1=some .local\/(scope.names.lookup y.1=some .cell/\((cellsFrom (↑0+1) scope.names []).lookup y.1).isSome=true):=λ⟨n,v⟩ M=>by
  rcases S.par n (of_mem_zip M).1 with q|q
  .exact .inl q
  .exact .inr ⟨q,PySem.W.cellsFrom_some _ _ _ (.inl q)⟩
 refine codeAny_call_function C.depth (KX _ _ lk) rfl S.co S.gen rfl (PySem.W.codeRec_of KX hcd) (Z _ _ _ _ ?_);refine wpAny_newFunctionEnv_cells S.kind i λY L s1 x=>?_;subst L;refine⟨D.keeps x.toInCall.keep,codeAny_func ?_⟩;obtain⟨t,X,O⟩:=hbody A a s H h Q E (C.deeper _) m;have I:Inv (LZ CX P w K mg base N qual scope f cdv A a s H E) [] _ H s1:=RU S C.hd p T r x;refine ó (X [] s1 _ H _ I O) (λU B hs=>?_) λe B hs=>hs
 have j: ∀{d:St}{H':Hp}{v:V}{u:ĵ},Inv (LZ CX P w K mg base N qual scope f cdv A a s H E) [] d H' B->RelV v u->Q v H'->CE a P w H s Q u B:=
  λ{d H' v u} J z q=>⟨v,H',J.os,J.bare,J.base,J.hok,z,q⟩
 cases U with
 |ret u=>
  obtain⟨v,d,H',J,z,q⟩:=hs;exact j J z q
 |next=>
  obtain⟨d,H',J,q⟩:=hs;exact j (v:=V.non) J rfl q
 |brk=>
  obtain⟨_,_,_,q⟩:=hs;exact False.elim q
 |cont=>
  obtain⟨_,_,_,q⟩:=hs;exact False.elim q
section
variable{p pos:Pos}{id:String}
def tCB(r:List V->Hp->VK->Prop)(t:TA):TE:=λσ H Q=>t σ H λb a=>r b a Q
def HI(f:CallR X (.builtin id) r)(d:Gl X x)(hm:X.mg x=none)(hv:bootBuiltins x=some (.builtin id))(m:PA X (e::es) t)(i:x≠"__name__":=by decide)(a:(x==("__debug__"))=false:=by decide)
  (he:q8 X e es:=by rfl) (hpl:q9 X pos es:=by rfl):PE X (.Call (.Name x p) (e::es) [] pos) (tCB r t):=by
 intro pins s σ H Q I h;refine ı (JA I d hm hv ?_ i a);exact PyProof.Rows.callWith_builtin1 (kL (m pos pins s σ H _ I h) λb s1 ⟨n,j,I1,o,k⟩=>f pins s1 σ j n b Q I1 o k) he hpl
def RV(f:CallR X (.type T) r)(d:Gl X x)(hm:X.mg x=none)(hv:bootBuiltins x=some (.type T))(m:PA X (e::es) t)(i:x≠"__name__":=by decide)(a:(x==("__debug__"))=false:=by decide)
  (he:q8 X e es:=by rfl) (hpl:q9 X pos es:=by rfl):PE X (.Call (.Name x p) (e::es) [] pos) (tCB r t):=by
 intro pins s σ H Q I h;refine ı (JA I d hm hv ?_ i a);exact ğ (kL (m pos pins s σ H _ I h) λb s1 ⟨n,j,I1,o,k⟩=>f pins s1 σ j n b Q I1 o k) he hpl
end
end L2
namespace HT
open PySem PyProof.Rows
section
def cat_tup(r:IsTup s.heap t vs.toArray)(v:IsTup s.heap b ws.toArray)(hv:vs≠[])
  (h1:ws=[]->Q (.ref t) s) (h2:ws≠[]->Q (.ref ↑0) {s with heap:=s.heap.push {cls:=.type "tuple",data:=.seq (vs++ws).toArray}})
  (hsz:vs.length+ws.length<=sizeLine):wpAny (model prog w) A (binaryOp .Add (.ref t) (.ref b)) Q E s:=by
 obtain⟨⟨cls,m,data,k⟩,h,q,n,u⟩:=id r;obtain⟨⟨p,f,_,d⟩,a,j,o,i⟩:=id v;subst q u j i;have e:vs.toArray++ws.toArray=(vs++ws).toArray:=by simp
 by_cases hw:ws=[]
 .exact concat_meets ⟨_,h,rfl⟩ ⟨_,a,rfl⟩ noFill_tuple_add seq_tuple_add PySem.F.slot_tuple_add PySem.F.entry_tuple_add (PySem.F.args_tuple_add_2 _ _)
   (tuple_addW1 t b vs.toArray ws.toArray n o m f k d (by simpa using hv) (by simp[hw])) ⟨h,a,h1 hw⟩
 .refine concat_meets ⟨_,h,rfl⟩ ⟨_,a,rfl⟩ noFill_tuple_add seq_tuple_add PySem.F.slot_tuple_add PySem.F.entry_tuple_add (PySem.F.args_tuple_add_2 _ _)
   (tuple_addW2 t b vs.toArray ws.toArray n o m f k d (by simpa using hv) (by simpa using hw) (by rw[sA];exact hsz)) ⟨h,a,?_⟩
  rw[e];exact h2 hw
noncomputable def sIx(n d:Nat):Option Int->Nat
 |none=>d
 |some v=>if v<0 then(v+(n:Int)).toNat else min v.toNat n
theorem sIx_nat(n d k:Nat):sIx n d (some  k )=min k n:=by show(if(k:Int)<0 then((k:Int)+(n:Int)).toNat else min (k:Int).toNat n)=min k n;rw[iN0 #[0],Ĥ]
theorem sIx_le(n d)(b:d<=n)(o):sIx n d o<=n:=by
 cases o with
 |none=>exact b
 |some v=>
  show(if v<0 then(v+_).toNat else min v.toNat n)<=n;by_cases a:v<0
  .rw[iP a];lia
  .rw[iN0 a];exact Nat.min_le_right _ _
theorem Ef(v)(n d:Nat):(if v<0 then max (v+(n:Int)) 0 else min v  n )=((sIx n d (some v):Nat)):=by
 show _=(((if v<0 then(v+_).toNat else min v.toNat n):Nat):Int)
 by_cases a:v<0
 .simp only[iP a];lia
 .simp only[iN0 a];lia
theorem Bo(lo hi)(n:Nat):Builtin.Slice.sliceAdjust lo hi 1  n =(((sIx n 0 lo):Int),((sIx n n hi):Int)):=by
 have a: ¬((1:Int)<0):=by lia
 unfold Builtin.Slice.sliceAdjust;refine Prod.ext ?_ ?_
 .cases lo with
  |none=>rfl
  |some v=>exact Ef v n 0
 .cases hi with
  |none=>rfl
  |some v=>exact Ef v n n
theorem Bp(i j:Nat):Builtin.Slice.slicePlaces  i   j  1=j - i:=by
 unfold Builtin.Slice.slicePlaces;have a:(1:Int)>0:=by lia
 split<;>lia
def NS(p:IsPart v o)(h:Q o s):wpAny (model prog w) A (Builtin.Slice.slicePartIndex v) Q E s:=by
 cases p with
 |none=>exact slicePart_none h
 |int i t=>exact slicePart_int h
def sliceApplied_gen{lo:N0}{Q:Int×Int×Nat->Ĵ->Prop}(hs:s.heap.IsSliceOf sl vl vu .none)(pl:IsPart vl lo)(d:IsPart vu hi)
  (h:Q (((sIx n 0 lo:Nat)),1,sIx n n hi - sIx n 0 lo) s):wpAny (model prog w) A (Builtin.Slice.sliceApplied (.ref sl) (pure  n )) Q E s:=by
 obtain⟨os,b,e,a⟩:=id hs;refine wB (wB (ð b a rfl (wB (ð b a rfl (wB (ð b a rfl (wP ?_)))))));refine wB (slicePart_none ?_);show wpAny _ _ _ _ _ s;refine wB (NS pl (wB (NS d (wB (wP ?_)))));show wpAny _ _ (match Builtin.Slice.sliceAdjust lo hi 1 _ with |(lo,hi)=>pure (lo,_,Builtin.Slice.slicePlaces lo hi 1)) _ _ s;rw[Bo lo hi n];show wpAny _ _ (pure _) _ _ s;rw[Bp];exact wP h
theorem Lf(xs:B0)(i k:Nat):((List.range k).filterMap λ(m:Nat)=>xs[( i +(m:Int) * 1).toNat]?).toArray=((xs.toList.drop i).take k).toArray:=by
 have e:(λ(m:Nat)=>xs[((i:Int)+(m:Int) * 1).toNat]?)=λm=>xs[i+m]? :=by
  funext m;have:((i:Int)+(m:Int) * 1).toNat=i+m:=by lia
  rw[this]
 rw[e];have:=pick_run xs i k;rw[List.filterMap_map]at this;have a:((λx=>xs[x]?)∘λx=>i+x)=λm=>xs[i+m]? :=rfl;rw[a]at this;rw[this]
def getItem_tuple_cut{lo:N0}(b:IsTup s.heap t items)(hs:s.heap.IsSliceOf sl vl vu .none)(pl:IsPart vl lo)(k:IsPart vu hi)
  (hw: ¬(sIx items.size 0 lo=0/\sIx items.size items.size hi=items.size))
  (h:Q (.ref ↑0) {s with heap:=s.heap.push {cls:=.type "tuple",data:=.seq ((items.toList.drop (sIx items.size 0 lo)).take (sIx items.size items.size hi - sIx items.size 0 lo)).toArray}})
  (hsz:items.size<=sizeLine):wpAny (model prog w) A (getItem (.ref t) (.ref sl)) Q E s:=by
 have a:sizeOk (.seq ((items.toList.drop (sIx items.size 0 lo)).take (sIx items.size items.size hi - sIx items.size 0 lo)).toArray):=by show((items.toList.drop (sIx items.size 0 lo)).take _).toArray.size<=sizeLine;rw[sA,lT,ú,Đ];omega
 have o:sIx items.size items.size hi<=items.size:=sIx_le _ _ (à _) hi;obtain⟨os,e,i,j⟩:=id hs;have d:s.TypeIs (.ref sl) "slice":=⟨os,e,i⟩
 unfold getItem
 try with_reducible refine ĉ ?_
 first |refine wB (wP ?_)|skip
 refine wB (wpAny_sequenceKey b.typeIs ↑4 ?_)
 refine wB (ā b.typeIs Ę
  (ą Ę b.typeIs entry_tuple_getitem ?_ (args_tuple_getitem _ _)))
 show wpAny _ _ (Builtin.Tuple.tupleItemsOf (.ref t) >>= _) _ _ s;refine wB (tupleItemsOf_ b ?_);refine wB (wpAny_typeOf d ?_);rw[iP ↑4];refine wB (sliceApplied_gen hs pl k ?_);have f: ¬((((sIx items.size 0 lo:Nat):Int)==0&&(1:Int)==1&&(sIx items.size items.size hi - sIx items.size 0 lo)==items.size)=true):=by intro q;rw[aE,aE]at q;have n:((sIx items.size 0 lo:Nat):Int)=0:=eq_of_beq q.1.1;have m:sIx items.size items.size hi - sIx items.size 0 lo=items.size:=eq_of_beq q.2;exact hw ⟨by omega,by omega⟩
 show wpAny _ _ (if _=true then _ else _) _ _ s;rw[iN0 f,Lf]
 first
  |exact wB (ĥ (wP ⟨_,rfl,wP h⟩) a)
  |exact wB _
  |exact wB _
  |exact wB _
end
end HT
namespace L2
open PySem PySem.Spec PyProof.Rows
abbrev TO:=St->Hp->(Option Int->Hp->Prop)->Prop
def PO(X:Cx)(e:Option Expr)(t:TO):Prop:=
 ∀(pins:L1)(s:Ĵ)(σ:St)(H:Hp)(Q:Option Int->Hp->Prop),Inv X pins σ H s->t σ H Q->
  wpAny ↑6 X.A (evalPart e X.env) (λu a=> ∃o H',Inv X pins σ H' a/\IsPart u o/\Q o H') X.xe s
def Rt:TO:=λ_ H Q=>Q none H
def T4(t:TE):TO:=λσ H Q=>t σ H λx a=> ∃i,x=.int i/\Q (some i) a
section
variable{lo hi:Option Expr}{p2:Pos}
def Ru:PO X none Rt:=by intro pins s σ H Q I h;exact wP ⟨none,H,I,.none,h⟩
def Rv(h:PE X e te):PO X (some e) (T4 te):=by intro pins s σ H Q I hw;refine kL (h pins s σ H _ I hw) λu s1 ⟨x,a,I1,d,b⟩=>?_;obtain⟨i,rfl,q⟩:=b;obtain⟨t,rfl⟩:=d;exact⟨_,a,I1,.int i t,q⟩
def SlR(X:Cx)(r:V->Option Int->Option Int->Hp->VK->Prop):Prop:=
 ∀(pins:L1)(s:Ĵ)(σ:St)(H:Hp)(x:V)(v a d:ĵ)(lo hi:N0)(b:Addr)(Q:VK),Inv X pins σ H s->RelV x v->s.heap.IsSliceOf b a d .none->IsPart a lo->IsPart d hi->r x lo hi H Q->
  ∃T id,typeLookup (.type T) "__getitem__"=pure (some (.builtin id))/\s.TypeIs v T/\wpAny ↑6 X.A (getItem v (.ref b)) (EP X pins σ Q) X.xe s
def SlR.or(h:SlR X r)(h':SlR X r'):SlR X (λx lo hi H Q=>r x lo hi H Q\/r' x lo hi H Q):=by
 intro pins s σ H x v a i lo hi b Q I d hs f e q;rcases q with q|q
 .exact h pins s σ H x v a i lo hi b Q I d hs f e q
 .exact h' pins s σ H x v a i lo hi b Q I d hs f e q
def tSl(r:V->Option Int->Option Int->Hp->VK->Prop)(d:TE)(e th:TO):TE:=λσ H Q=>d σ H λx f=>e σ f λl b=>th σ b λu a=>r x l u a Q
def Lg(k:SlR X r)(o:PE X e te)(z:PO X lo tl)(p:PO X hi th):PE X (.Subscript e (.Slice lo hi none p2) pos) (tSl r te tl th):=by intro pins s σ H Q I h;refine Subscript_ (kL (o pins s σ H _ I h) λv s1 ⟨x,K,I1,m,t⟩=>?_);refine wpAny_Slice (kL (z pins s1 σ K _ I1 t) λd w ⟨l,y,L,J,n⟩=>kL (p pins w σ y _ L n) λf a ⟨u,i,D,E,j⟩=>?_);refine wP ?_;have B:Inv X pins σ i {a with heap:=a.heap.push {cls:=.type "slice",data:=.fields #[d,f,.none]}}:=D.kept λb M q=>hP0 _ q;obtain⟨T,id,F,G,C⟩:=k pins {a with heap:=a.heap.push {cls:=.type "slice",data:=.fields #[d,f,.none]}} σ i x v d f l u a.heap.objs.size Q B m (Heap.IsSliceOf.new ..) J E j;show wpAny _ X.A _ _ X.xe {a with heap:=a.heap.push {cls:=.type "slice",data:=.fields #[d,f,.none]}};exact tail_any G F C (by with_unfolding_all rfl)
def Id(xs:List V)(lo hi:N0):List V:=(xs.drop (HT.sIx xs.length 0 lo)).take (HT.sIx xs.length xs.length hi - HT.sIx xs.length 0 lo)
theorem LC(xs)(lo hi):(Id xs lo hi).length<=xs.length:=by
 unfold Id;rw[lT,ú]
 lia
def rSlT(K:P0):V->Option Int->Option Int->Hp->VK->Prop:=λx lo hi H Q=> ∃a xs,x=.ref a/\SqT K H a xs/\
 ¬(HT.sIx xs.length 0 lo=0/\HT.sIx xs.length xs.length hi=xs.length)/\ ∀p,H p=none->Q (.ref p) (jL H p (.tup (Id xs lo hi)))
def Zc:SlR X (rSlT X.K):=by
 intro pins s σ H x v o u lo hi p Q I j hs m k h;obtain⟨a,xs,rfl,n,hw,q⟩:=h;cases j;obtain⟨e,r,f,i⟩:=I.tuple n;have d:e.toArray.size=xs.length:=by rw[sA];exact r.length.symm
 refine⟨_,_,PyProof.Rows.slot_tuple_getitem.lookup,f.typeIs,?_⟩;refine HT.getItem_tuple_cut f hs m k (by rw[d];exact hw) ?_ (by rw[d];exact i);rw[d];refine⟨.ref ↑0,_,I.laid (λb t q=>hP0 _ q) (à _) ?_,rfl,q _ (I.hok.fresh (à _))⟩;exact⟨ç (LC xs lo hi) i,_,(r.drop _).take _,IsTup.new _ _⟩
def T5(K:P0):R2:=λx y H Q=> ∃a b xs d,x=.ref a/\y=.ref b/\SqT K H a xs/\SqT K H b d/\xs≠[]/\xs.length+d.length<=sizeLine/\
 (d=[]->Q (.ref a) H)/\(d≠[]-> ∀p,H p=none->Q (.ref p) (jL H p (.tup (xs++d))))
def Vals.nil_iff(r:Vals xs us):us=[]↔xs=[]:=by
 cases r with
 |nil=>simp
 |cons _ _=>simp
def Rw:OpR X (binaryOp .Add) (T5 X.K):=by intro pins s σ H x y v u Q I p j h;obtain⟨a,b,xs,B,rfl,rfl,t,r,n,i,o,m⟩:=h;cases p;cases j;obtain⟨k,e,p1,_⟩:=I.tuple t;obtain⟨f,d,p2,_⟩:=I.tuple r;refine HT.cat_tup p1 p2 (λz=>n (e.nil_iff.mp z)) (λz=>⟨.ref a,H,I,rfl,o (d.nil_iff.mp z)⟩) (λz=>?_) (by rw[<-e.length, <-d.length];exact i);refine⟨.ref ↑0,_,I.laid (λb A q=>hP0 _ q) (à _) ?_,rfl,m (λw=>z (d.nil_iff.mpr w)) _ (I.hok.fresh (à _))⟩;exact⟨by rw[lA];exact i,_,e.append d,IsTup.new _ _⟩
end
noncomputable def QK(n:Nat)(i:Int):Option Nat:=if 0<=i then(if i<n then some i.toNat else none)else if -(n:Int)<=i then some (i+n).toNat else none
def iU{α:Type}(xs:List α)(i:Int):Option α:=(QK xs.length i).bind λj=>xs[j]?
theorem Eg(h:QK n i=some j):seqIndex? i n=some j/\j<n/\ - n <=i/\i<n:=by
 unfold QK at h;by_cases b:0<=i
 .rw[iP b]at h;by_cases a:i<n
  .rw[iP a]at h;have e:=å h;exact⟨by rw[seqIndex_of b a,e],by lia,by lia,a⟩
  .rw[iN0 a]at h;cases h
 .rw[iN0 b]at h;by_cases a: -(n:Int)<=i
  .rw[iP a]at h;have e:=å h;exact⟨by rw[seqIndex_neg #[0] a,e],by lia,a,by lia⟩
  .rw[iN0 a]at h;cases h
def UI(h:iU xs i=some v): ∃j,seqIndex? i xs.length=some j/\xs[j]? =some v/\j<xs.length/\ - xs.length <=i/\i<xs.length:=by
 unfold iU at h
 cases e:QK xs.length i with
 |none=>rw[e]at h;cases h
 |some j=>
  rw[e]at h;obtain⟨a,f,b,d⟩:=Eg e;exact⟨j,a,h,f,b,d⟩
def UJ(b:Expr):Prop:= ∀o i,subscripted b false o i=operate [o,i] (getItem o i)
def IxR(X:Cx)(r:R2):Prop:=
 ∀(b a:Expr)(pins:L1)(s:Ĵ)(σ:St)(H:Hp)(x y:V)(v u:ĵ)(Q:VK),Inv X pins σ H s->RelV x v->RelV y u->r x y H Q->
  subscripted a false v u=operate [v,u] (getItem v u)->wpAny ↑6 X.A (subscriptTail b a v u) (EP X pins σ Q) X.xe s
def Wp(X:Cx)(id:String)(r:V->List V->Hp->VK->Prop):Prop:=
 ∀(pins:L1)(s:Ĵ)(σ:St)(H:Hp)(x:V)(xs:List V)(v:ĵ)(a:A0)(Q:VK),Inv X pins σ H s->RelV x v->Vals xs a->r x xs H Q->
  wpAny ↑6 X.A (call (.builtin id) (v::a)) (EP X pins σ Q) X.xe s
section
variable{a b:Expr}
def IxR.or(h:IxR X r)(h':IxR X r'):IxR X (λx y H Q=>r x y H Q\/r' x y H Q):=by
 intro b a pins s σ H x y v u Q I e d q hs;rcases q with q|q
 .exact h b a pins s σ H x y v u Q I e d q hs
 .exact h' b a pins s σ H x y v u Q I e d q hs
def T6(f:IxR X r)(j:PE X a ta)(i:PE X b tb)(hs:UJ b):PE X (.Subscript a b pos) (zAE r ta tb):=by intro pins s σ H Q I h;exact Subscript_ (Ys j i I h λv u m x y n k e d q=>f a b pins m σ n x y v u Q k e d q (hs _ _))
def T8(K:P0):R2:=λx y H Q=> ∃p xs i v,x=.ref p/\y=.int i/\SqL K H p xs/\iU xs i=some v/\Q v H
def T9(K:P0):R2:=λx y H Q=> ∃p xs i v,x=.ref p/\y=.int i/\SqT K H p xs/\iU xs i=some v/\Q v H
def U1:R2:=λx y H Q=> ∃z i c,x=.str z/\y=.int i/\z.length<=sizeLine/\iU z.cps.toList i=some c/\Q (.str ⟨#[c]⟩) H
theorem Rx:IxR X (T8 X.K):=by
 intro e m pins s σ H x y v u Q I G B h hs;obtain⟨p,xs,i,z,rfl,rfl,E,C,q⟩:=h;cases G;obtain⟨t,rfl⟩:=B;obtain⟨d,r,n,M⟩:=I.list E;obtain⟨j,b,L,N,J,D⟩:=UI C;obtain⟨w,A,k⟩:=r.get L;have F:=r.length;have O:=GB;have a:EP X pins σ Q w s:=⟨z,H,I,k,q⟩
 by_cases o:0<=i
 .have f:=by rw[seqIndex_of o D]at b;exact å b
  exact item_listR n.isList o #[0] (by rw[f];simpa using A) a hs
 .have f:(i+(d.toArray.size:Int)).toNat=j:=by rw[seqIndex_neg #[0] J]at b;rw[sA, <-F];exact å b
  exact subscriptTail_builtinR n.isList.typeIs slot_list_getitem.lookup
   (wpAny_getItem_list_neg n.isList #[0] (by rw[sA]<;>lia) #[0] (by rw[f];simpa using A) ⟨rfl,a⟩) hs
theorem ix_tup:IxR X (T9 X.K):=by
 intro b e pins s σ H x y v u Q I C k h hs;obtain⟨p,xs,i,z,rfl,rfl,A,n,q⟩:=h;cases C;obtain⟨t,rfl⟩:=k;obtain⟨m,r,f,G⟩:=I.tuple A;obtain⟨j,D,E,J,L,F⟩:=UI n;obtain⟨w,o,d⟩:=r.get E;have B:=r.length;have M:=GB;have a:EP X pins σ Q w s:=⟨z,H,I,d,q⟩
 exact subscriptTail_builtinR f.typeIs slot_tuple_getitem.lookup
  (getItem_tuple f #[0] #[0] (by rw[sA, <-B];exact D) (by simpa using o) ⟨rfl,a⟩) hs
theorem ix_str:IxR X U1:=by
 intro a b pins s σ H x y v u Q I o f h hs;obtain⟨z,i,c,rfl,rfl,B,k,q⟩:=h;obtain⟨t,rfl⟩:=o;obtain⟨A,rfl⟩:=f;obtain⟨j,d,r,C,p,m⟩:=UI k;have n:z.cps.toList.length=z.length:=by simp[Str.length]
 rw[n]at d p m;have D:=GB;exact tail_any (typeIs_str s z t) slot_str_getitem.lookup (getItem_str (by have e:decide (i< -(2 ^ 63:Int))=false:=dF0 #[0];have w:decide (i>=2 ^ 63)=false:=dF0 #[0];rw[e,w,Bool.or_false]) (by rw[d];simpa using r) ⟨.str ⟨#[c]⟩,H,I.tok _,⟨_,rfl⟩,q⟩) hs
def rIx(K:P0):R2:=λx y H Q=>T8 K x y H Q\/T9 K x y H Q\/U1 x y H Q
def Zd:IxR X (rIx X.K):=Rx.or (ix_tup.or ix_str)
def Bq(a:A0)(n j)(u):Obj.mapSeq (·.setIfInBounds j u) {cls:=.type "list",data:=.seq a.toArray n}={cls:=.type "list",data:=.seq (a.set j u).toArray n}:=by simp[Obj.mapSeq]
def Inv.lst(I:↑1)(h:H p=some (.lst xs)):
  ∃(a:A0)(n:Nat),Vals xs a/\s.heap.get? p=some {cls:=.type "list",data:=.seq a.toArray n}/\xs.length<=sizeLine:=by
 obtain⟨z,a,n,r,e⟩:=I.hok p _ h;exact⟨a,n,r,e,z⟩
def Inv.lstUpd{a:A0}(I:↑1)(h:H p=some (.lst xs))
  (ho:s.heap.get? p=some {cls:=.type "list",data:=.seq a.toArray n}) (hf:f {cls:=.type "list",data:=.seq a.toArray n}={cls:=.type "list",data:=.seq its'.toArray n'}) (r:Vals ys its') (hz:ys.length<=sizeLine) (t):
  Inv X pins σ (jL H p (.lst ys)) {s with heap:=s.heap.update p f,toks:=t}:=by
 have e:(s.heap.update p f).get? p=some {cls:=.type "list",data:=.seq its'.toArray n'}:=by rw[ć f ho (by rw[hf]<;>rfl),hf]
 refine I.write (by rw[h];trivial) (.inl rfl) (λb u d q=>(õ _ _ (Ne.symm d)).trans q) ⟨_,e⟩ ?_;exact⟨hz,its',n',r,e⟩
def U2:V->V->V->Hp->(Hp->Prop)->Prop:=λo i v H Q=> ∃p xs k j,o=.ref p/\i=.int k/\H p=some (.lst xs)/\QK xs.length k=some j/\Q (jL H p (.lst (xs.set j v)))
theorem set_list:Ym X U2:=by
 intro pins s σ H o i v L G u Q I D C B h;obtain⟨p,xs,k,j,rfl,rfl,w,F,q⟩:=h;cases D;obtain⟨t,rfl⟩:=C;obtain⟨a,n,r,f,E⟩:=I.lst w;obtain⟨b,K,y,z⟩:=Eg F;have e:=r.length;have J:=GB
 have A:Inv X pins σ _ {s with heap:=s.heap.update p _}:=
  I.lstUpd w f (Bq a n j u) (r.set B j) (by rw[Ą];exact E) s.toks
 by_cases m:0<=k
 .have d:=by rw[seqIndex_of m z]at b;exact å b
  exact PySem.W.ki_setAt f m #[0] (by rw[sA, <-e];exact z) (by rw[d];exact⟨_,A,q⟩)
 .have d:(k+(a.toArray.size:Int)).toNat=j:=by rw[seqIndex_neg #[0] y]at b;rw[sA, <-e];exact å b
  exact PySem.W.ki_setBack f #[0] (by rw[sA, <-e];exact y) #[0] (by rw[d];exact⟨_,A,q⟩)
theorem UK(lo hi)(n):(sliceBounds lo hi none n).1=((HT.sIx n 0 lo:Nat))/\(sliceBounds lo hi none n).2.1=((HT.sIx n n hi:Nat))/\(sliceBounds lo hi none n).2.2=1:=by
 refine⟨?_,?_,rfl⟩
 .cases lo with
  |none=>simp[sliceBounds,HT.sIx]
  |some i=>
   simp only[sliceBounds,HT.sIx,Option.getD_none,if_true];by_cases h:i<0
   .simp only[h,if_true]<;>lia
   .simp only[h,iF]<;>lia
 .cases hi with
  |none=>simp[sliceBounds,HT.sIx]
  |some i=>
   simp only[sliceBounds,HT.sIx,Option.getD_none,if_true];by_cases h:i<0
   .simp only[h,if_true]<;>lia
   .simp only[h,iF]<;>lia
theorem QO(a:A0)(lo hi):slicePick a.toArray lo hi none=((a.drop (HT.sIx a.length 0 lo)).take (HT.sIx a.length a.length hi - HT.sIx a.length 0 lo)).toArray:=by obtain⟨d,b,e⟩:=UK lo hi a.toArray.size;unfold slicePick;rw[d,b,e];simp only[sliceRange_one,pick_run]<;>rfl
def rSlL(K:P0):V->Option Int->Option Int->Hp->VK->Prop:=λx lo hi H Q=> ∃a xs,x=.ref a/\SqL K H a xs/\ ∀p,H p=none->Q (.ref p) (jL H p (.lst (Id xs lo hi)))
theorem Ry:SlR X (rSlL X.K):=by intro pins s σ H x v o u lo hi p Q I f hs k j h;obtain⟨a,xs,rfl,m,q⟩:=h;cases f;obtain⟨i,r,e,n⟩:=I.list m;have d:=r.length;refine⟨_,_,slot_list_getitem.lookup,e.isList.typeIs,?_⟩;refine wpAny_getItem_list_slice e.isList hs k j .none (by simp) ?_ (by rw[sA]<;>lia);rw[QO, <-d];refine⟨.ref ↑0,_,I.laid (λb t q=>hP0 _ q) (à _) ?_,rfl,q _ (I.hok.fresh (à _))⟩;exact⟨ç (LC xs lo hi) n,_,0,(r.drop _).take _,ä _ rfl⟩
noncomputable def uI:V->Bool
 |.non=>true
 |.bl _=>true
 |.int _=>true
 |.str _=>true
 |_=>false
noncomputable def Rz:V->V->Bool
 |.non,.non=>true
 |.bl a,.bl b=>a==b
 |.bl a,.int b=>(if a then 1 else 0)==b
 |.int a,.bl b=>a==(if b then 1 else 0)
 |.int a,.int b=>a==b
 |.str a,.str b=>a==b
 |_,_=>false
def Ze(h:RelV y u)(d:RelV x v)(i:uI y=true)(f:uI x=true):SeqAt.EqAt A s u v (Rz y x):=by
 cases y with
 |non=>
  cases h
  cases x with
  |non=>cases d;exact SeqAt.EqAt.same _
  |bl b=>cases d;exact SeqAt.EqAt.none_bool b
  |int b=>obtain⟨t,rfl⟩:=d;exact SeqAt.EqAt.none_int b t
  |str b=>obtain⟨t,rfl⟩:=d;exact SeqAt.EqAt.none_str b t
  |_=>exact absurd f xF0
 |bl a=>
  cases h
  cases x with
  |non=>cases d;exact SeqAt.EqAt.bool_none a
  |bl b=>cases d;exact SeqAt.EqAt.bool_bool a b
  |int b=>obtain⟨t,rfl⟩:=d;exact SeqAt.EqAt.bool_int a b t
  |str b=>obtain⟨t,rfl⟩:=d;exact SeqAt.EqAt.bool_str a b t
  |_=>exact absurd f xF0
 |int a=>
  obtain⟨e,rfl⟩:=h
  cases x with
  |non=>cases d;exact SeqAt.EqAt.int_none a e
  |bl b=>cases d;exact SeqAt.EqAt.int_bool a e b
  |int b=>obtain⟨t,rfl⟩:=d;exact SeqAt.EqAt.int_int a e b t
  |str b=>obtain⟨t,rfl⟩:=d;exact SeqAt.EqAt.int_str a e b t
  |_=>exact absurd f xF0
 |str a=>
  obtain⟨e,rfl⟩:=h
  cases x with
  |non=>cases d;exact SeqAt.EqAt.str_none a e
  |bl b=>cases d;exact SeqAt.EqAt.str_bool a e b
  |int b=>obtain⟨t,rfl⟩:=d;exact SeqAt.EqAt.str_int a e b t
  |str b=>obtain⟨t,rfl⟩:=d;exact SeqAt.EqAt.str_str a e b t
  |_=>exact absurd f xF0
 |_=>exact absurd i xF0
theorem UL:CallR X (.builtin "len") (λxs H Q=> ∃p b,xs=[.ref p]/\(SqL X.K H p b\/SqT X.K H p b)/\Q (.int b.length) H):=by
 intro pins s σ H xs m Q I r h;obtain⟨p,b,rfl,d,q⟩:=h;obtain⟨u,rfl,j⟩:=vals1 r;cases j;have n:=GB;rcases d with d|d
 .obtain⟨f,e,i,k⟩:=I.list d;have a:=e.length;exact Calls.call_len_list i.isList (by simp only[sA]<;>lia) ⟨.int b.length,H,I.tok _,⟨_,by rw[sA,a]⟩,q⟩
 .obtain⟨f,e,i,k⟩:=I.tuple d;have a:=e.length;exact len_tuple i (by simp only[sA]<;>lia) ⟨.int b.length,H,I.tok _,⟨_,by rw[sA,a]⟩,q⟩
theorem UM:CallR X (.builtin "len") (λxs H Q=> ∃z,xs=[.str z]/\z.length<=sizeLine/\Q (.int z.length) H):=by intro pins s σ H xs a Q I r h;obtain⟨z,rfl,d,q⟩:=h;obtain⟨u,rfl,t,rfl⟩:=vals1 r;have b:=GB;exact len_str #[0] ⟨.int z.length,H,I.tok _,⟨_,rfl⟩,q⟩
def CallR.or(h:CallR X f r)(h':CallR X f r'):CallR X f (λxs H Q=>r xs H Q\/r' xs H Q):=by
 intro pins s σ H xs a Q I b q;rcases q with q|q
 .exact h pins s σ H xs a Q I b q
 .exact h' pins s σ H xs a Q I b q
theorem UN:CallR X (.type "list") (λxs H Q=> ∃p d,xs=[.ref p]/\(SqL X.K H p d\/SqT X.K H p d)/\ ∀l,H l=none->Q (.ref l) (jL H l (.lst d))):=by
 intro pins s σ H xs C Q I r h;obtain⟨p,d,rfl,t,q⟩:=h;obtain⟨u,rfl,B⟩:=vals1 r;cases B
 have i: ∀(a:A0),Vals d a->d.length<=sizeLine-> ∀(h':Heap)(b:Nat),_->
   h'.get? ↑0=some {cls:=.type "list",dict:=none,data:=.seq a.toArray b,slots:=#[]}->EP X pins σ Q _ {s with heap:=h'}:=λa f m h' b j e=>
  ⟨.ref ↑0,_,I.laid j (à _) (show ObjOk X.prog X.w _ h' _ (.lst d)from⟨m,a,b,f,e⟩),rfl,q _ (I.hok.fresh (à _))⟩
 rcases t with t|t
 .obtain⟨a,f,z,m⟩:=I.list t;have k:=f.length;obtain⟨o,A,v,n,y⟩:=z.isList;exact call_list_seq p (.inl rfl) A v y (λh' b j e=>i a f m h' b j e) (by simp only[sA]<;>lia)
 .obtain⟨a,f,z,m⟩:=I.tuple t;have k:=f.length;obtain⟨o,A,v,n,y⟩:=z;exact call_list_seq p (.inr rfl) A v y (λh' b j e=>i a f m h' b j e) (by simp only[sA]<;>lia)
theorem xS:CallR X (.type "tuple") (λxs H Q=> ∃p d,xs=[.ref p]/\((SqL X.K H p d/\ ∀l,H l=none->Q (.ref l) (jL H l (.tup d)))\/(SqT X.K H p d/\Q (.ref p) H))):=by
 intro pins s σ H xs v Q I r h;obtain⟨p,d,rfl,h⟩:=h;obtain⟨u,rfl,n⟩:=vals1 r;cases n;rcases h with⟨hq,q⟩|⟨hq,q⟩
 .obtain⟨a,f,i,k⟩:=I.list hq;have j:=f.length;refine call_tuple_list i.isList (λh' m=>?_) (by simp only[sA]<;>lia);have I1:Inv X pins σ H {s with heap:=h'}:=I.kept m
  have t:Inv X pins σ (jL H h'.objs.size (.tup d)) {s with heap:=h'.push {cls:=.type "tuple",data:=.seq a.toArray}}:=
   I1.laid (λb o e=>hP0 _ e) (à _) (⟨k,a,f,IsTup.new _ _⟩)
  exact⟨.ref h'.objs.size,_,t,rfl,q _ (I1.hok.fresh (à _))⟩
 .obtain⟨a,f,i,k⟩:=I.tuple hq;exact call_tuple_same i ⟨.ref p,H,I,rfl,q⟩
def tyV(K:P0)(T:String)(x:V)(H:Hp):Prop:=match x with
 |.str _=>T="str"
 |.int _=>T="int"
 |.ref p=>(T="list"/\ ∃xs,SqL K H p xs)\/(T="tuple"/\ ∃o,K.lookup p=some o/\o.cls=.type "tuple"/\o.dict=none)\/
   (T="dict"/\((∃a,H p=some (.dK a))\/ ∃a,H p=some (.dT a)))\/(T="set"/\ ∃S n,H p=some (.set S n))
 |_=>False
def Zf(I:↑1)(r:RelV x v)(d:tyV X.K T x H):
  s.TypeIs v T/\ ∀a,v=.ref a-> ∃j,s.heap.get? a=some j/\j.dict=none:=by
 cases x with
 |str z=>
  obtain⟨t,rfl⟩:=r;cases d;exact⟨typeIs_str s z t,λ_ e=>nomatch e⟩
 |int i=>
  obtain⟨t,rfl⟩:=r;cases d;exact⟨typeIs_int s i t,λ_ e=>nomatch e⟩
 |ref p=>
  cases r;rcases d with⟨rfl,xs,hq⟩|⟨rfl,o,hk,hc,f⟩|⟨rfl,hk⟩|⟨rfl,S,n,hk⟩
  .obtain⟨m,_,k,_⟩:=I.list hq;refine⟨k.isList.typeIs,λa e=>?_⟩;cases e;obtain⟨o,n,e,c,f,_⟩:=k;exact⟨o,e,f⟩
  .refine⟨⟨o,I.kIn p o hk,hc⟩,λa e=>?_⟩;cases e;exact⟨o,I.kIn _ o hk,f⟩
  .have z: ∃o,s.heap.get? p=some o/\o.ExactDict:=by
    rcases hk with⟨kvs,hk⟩|⟨kvs,hk⟩
    .obtain⟨_,_,_,_,o,_,_,e,b,_⟩:=I.hok p _ hk;exact⟨o,e,b⟩
    .obtain⟨_,_,_,_,o,_,_,e,b,_⟩:=I.hok p _ hk;exact⟨o,e,b⟩
   obtain⟨o,e,b⟩:=z;refine⟨⟨o,e,b.1⟩,λa h=>?_⟩;cases h;exact⟨o,e,b.2.1⟩
  .obtain⟨o,_,_,_,e,b,_⟩:=I.hok p _ hk;refine⟨⟨o,e,b.1⟩,λa h=>?_⟩;cases h;exact⟨o,e,b.2.1⟩
 |_=>exact False.elim d
def tBM(K:P0)(T:String)(r:V->List V->Hp->VK->Prop)(d:TE)(t:TA):TE:=λσ H Q=>d σ H λx a=>tyV K T x a/\t σ a λxs b=>r x xs b Q
variable{apos cpos:Pos}{id:String}
def U3(i:PlainAttrs T)(a:Slot T name id)(b:typeOf (.builtin id)=pure (.type "method_descriptor"))(hm:Wp X id r)(u:PE X o to)(A:PA X (e::es) t)
  (hbase:attributeBase o name X.env (eval o X.env)=eval o X.env:=by rfl)
  (hfew:((backTo cpos (starEach (e::es) X.env)).all (λx=>!x.1)&&(backToKw cpos (keywordEach [] X.env)).all (λx=>x.1.isSome)
   &&decide ↑7)=true:=by rfl)
  (hline:(apos.endLine==cpos.line)=true:=by rfl) (hs:q8 X e es:=by rfl) (hplain:(backTo cpos (starEach es X.env)).any (·.1)=false:=by rfl):
  PE X (.Call (.Attribute o name apos) (e::es) [] cpos) (tBM X.K T r to t):=by
 intro pins s σ H Q I h;refine wpAny_Call_method_late hbase hfew hline rfl (kL (u pins s σ H _ I h) λv s1 ⟨x,y,I1,f,m,z⟩=>?_);obtain⟨q,w⟩:=Zf I1 f m;refine⟨T,id,i,a,b,q,w,?_⟩;have d:=A cpos pins s1 σ y _ I1 z;rw[hs]at d ⊢;refine Calls.callWith_builtin (by show(false || (backTo cpos _).any (·.1))=false;rw[hplain]<;>rfl) (Calls.evalArgs_plain ?_);exact kL d λk D ⟨B,j,C,n,p⟩=>hm pins D σ j x B v k Q C f n p
end
def MtM(X:Cx)(id:String)(r:V->List V->Hp->VK->Prop):Prop:=
 ∀(pins:L1)(s:Ĵ)(σ:St)(H:Hp)(x:V)(xs:List V)(v:ĵ)(a:A0)(Q:VK),Inv X pins σ H s->RelV x v->Vals xs a->r x xs H Q->
  wpAny ↑6 X.A (call (.builtin id) (v::a)) (EP X pins σ Q) X.xe s
def Vals.one: ∀{x}{a},Vals [x] a-> ∃u,a=[u]/\RelV x u
 |_,_,.cons r .nil=>⟨_,rfl,r⟩
def Vals.reverse(h:Vals xs us):Vals xs.reverse us.reverse:=by
 induction h with
 |nil=>exact .nil
 |cons r t ih=>rw[reverse_cons,reverse_cons];exact Vals.append ih (.cons r .nil)
theorem Vals.rep(h:Vals xs us): ∀k:Nat,Vals (List.replicate k xs).flatten (List.replicate k us).flatten
 |0=>.nil
 |k+1=>by exact Vals.append h (Vals.rep h k)
theorem foldl_rep(its): ∀ k (a:A0),
  List.foldl (λf b=>f++b) a.toArray (List.replicate k its.toArray)=(a++(List.replicate k its).flatten).toArray
 |0,a=>by simp
 |k+1,a=>by
  have e:a.toArray++its.toArray=(a++its).toArray:=by simp
  have d:(a++its)++(List.replicate k its).flatten=a++(List.replicate (k+1) its).flatten:=by rw[ě,flatten_cons,aA]
  rw[<-d, <-foldl_rep its k _, <-e,ě,List.foldl_cons]
section
def Inv.lset{a:A0}(I:↑1)(h:H l=some (.lst xs))
  (e:s.heap.get? l=some {cls:=.type "list",data:=.seq a.toArray n}) (hf:f a.toArray=its'.toArray) (hv:Vals ys its') (hz:ys.length<=sizeLine):
  Inv X pins σ (jL H l (.lst ys)) {s with heap:=s.heap.update l (Obj.mapSeq f),toks:=t'}:=by
 have q:=PySem.IsL.update e f;rw[hf]at q;refine I.write (by rw[h];exact trivial) (.inl rfl) (λi u b d=>(õ s.heap _ (Ne.symm b)).trans d) ⟨_,q⟩ ?_;exact⟨hz,its',_,hv,q⟩
def Inv.lnew(I:↑1)(hv:Vals ys its)(a:ys.length<=sizeLine):
  Inv X pins σ (jL H ↑0 (.lst ys)) {s with heap:=s.heap.push {cls:=.type "list",data:=.seq its.toArray},toks:=t'}:=
 I.laid (λ_ _ q=>hP0 _ q) (à _) ⟨a,its,0,hv,ä _ rfl⟩
def Inv.fresh(I:↑1):H ↑0=none:=I.hok.fresh (à _)
def Inv.lstM(I:↑1)(b:H l=some (.lst xs)):xs.length<=sizeLine/\ ∃(a:A0)(n:Nat),Vals xs a/\xs.length=a.length/\s.heap.get? l=some {cls:=.type "list",data:=.seq a.toArray n}:=by obtain⟨z,a,n,r,e⟩:=I.hok l _ b;exact⟨z,a,n,r,r.length,e⟩
theorem Lh(h:n<=sizeLine):Builtin.List.listTooLong n=false:=by exact dF0 #[0]
end
section
def Eh:V->List V->Hp->VK->Prop:=λx a H Q=> ∃l xs y,x=.ref l/\a=[y]/\H l=some (.lst xs)/\xs.length<sizeLine/\Q .non (jL H l (.lst (xs++[y])))
theorem Ie:MtM X "list.append" Eh:=by
 intro pins s σ H x o v j Q I i d h;obtain⟨l,xs,y,rfl,rfl,b,m,q⟩:=h;cases i;obtain⟨u,rfl,f⟩:=d.one;obtain⟨z,a,n,r,k,e⟩:=I.lstM b;refine ħ F.slot_list_append ⟨_,e,rfl⟩ F.entry_list_append (F.args_list_append_2 _ _) (PySem.list_append l a.toArray n u (by rw[sA];lia)) ⟨e,?_⟩;refine⟨.non,_,I.lset b e (by simp) (r.append (.cons f .nil)) ?_,rfl,q⟩;rw[lA,lS]
 lia
def rCat:R2:=λx y H Q=> ∃l b xs a,x=.ref l/\y=.ref b/\H l=some (.lst xs)/\H b=some (.lst a)/\xs.length+a.length<=sizeLine/\ ∀p,H p=none->Q (.ref p) (jL H p (.lst (xs++a)))
theorem Zg:OpR X (binaryOp .Add) rCat:=by
 intro pins s σ H x y v u Q I m f h;obtain⟨l,b,xs,w,rfl,rfl,k,i,B,q⟩:=h;cases m;cases f;obtain⟨z,d,n,r,C,e⟩:=I.lstM k;obtain⟨D,a,A,o,j,p⟩:=I.lstM i;refine PySem.P.add_list e p ?_ (by rw[sA,sA];lia);have t:d.toArray++a.toArray=(d++a).toArray:=by simp
 rw[t];exact⟨.ref _,_,I.lnew (r.append o) (by rw[lA];lia),rfl,q _ I.fresh⟩
def rRep:R2:=λx y H Q=> ∃l k xs,x=.ref l/\y=.int k/\H l=some (.lst xs)/\ -(2 ^ 63)<=k/\k<2 ^ 63/\xs.length * k.toNat<=sizeLine/\
 ∀p,H p=none->Q (.ref p) (jL H p (.lst (List.replicate k.toNat xs).flatten))
def len_rep{α:Type}(xs:List α)(k):(List.replicate k xs).flatten.length=k * xs.length:=by
 induction k with
 |zero=>simp
 |succ k ih=>rw[ě,flatten_cons,lA,ih,Nat.succ_mul,Nat.add_comm]
theorem Zh:OpR X (binaryOp .Mult) rRep:=by
 intro pins s σ H x y v u Q I G B h;obtain⟨l,k,xs,rfl,rfl,D,J,L,A,q⟩:=h;cases G;obtain⟨t,rfl⟩:=B;obtain⟨z,b,n,r,E,e⟩:=I.lstM D;have j:b.toArray.size * k.toNat<=sizeLine:=by rw[sA, <-E];exact A
 have i: ¬b.toArray.size * k.toNat>(2 ^ 63 - 1) / 8:=by
  have:(sizeLine:Nat)<=(2 ^ 63 - 1) / 8:=by decide
  lia
 have o: ¬(!Builtin.List.listFitsIndex k)=true:=by rw[fitsIndex_both J L];exact xF0
 have d: ¬Builtin.List.listTooLong (b.toArray.size * k.toNat)=true:=by rw[Lh j];exact xF0
 have f:List.foldl (λp w=>p++w) #[] (List.replicate (if b.toArray.isEmpty=true then 0 else k.toNat) b.toArray)=(List.replicate k.toNat b).flatten.toArray:=by
  have K: ∀m:Nat,List.foldl (λp w=>p++w) #[] _=(List.replicate m b).flatten.toArray:=λm=>by have:=foldl_rep b m [];exact this
  rw[K]
  cases b with
  |nil=>simp
  |cons a r'=>rw[iN0 (by simp)]
 refine wpAny_binaryOp_repeat_ref ↑4 ⟨_,e,rfl⟩ (λC=>typeIs_int C k t) noFill_list_mul F.fills_int_mul F.slot_int_rmul repeat_list F.slot_int_index.lookup
  (ħ F.slot_int_rmul (typeIs_int s k t) F.entry_int_rmul (F.args_int_rmul_2 _ _) (int___rmul___int_list k t l b.toArray n)
   ⟨e,rfl,⟨_,e,rfl⟩,ħ F.slot_list_mul ⟨_,e,rfl⟩ F.entry_list_mul (F.args_list_mul_2 _ _) (AutoListH.list___mul___list_int_3 l b.toArray n k t o i d) ⟨e,?_⟩⟩)
 rw[f];exact⟨.ref _,_,I.lnew (r.rep k.toNat) (by rw[len_rep,Nat.mul_comm];exact A),rfl,q _ I.fresh⟩
end
end L2
namespace Att
open PySem PySem.W PySem.Calls PyProof.Rows
def MA: ∀ d  e ,WellAll P h e (d.map WData.int)->IntsAre e d:=by
 intro d
 induction d with
 |nil=>
  intro e w;cases w;exact .nil
 |cons n d ih=>
  intro e w
  cases w with
  |cons a b=>
   cases a;exact .cons _ _ (ih _ b)
theorem Ig{l:OpenLaw}(p:l.most=some n)
  (hpre:l.row.toRowW.claim.pre args=true) (hwl:WellAll P h vals args):
  ∃a k b,vals=[Value.ref a]/\args=[WData.list (b.map WData.int)]/\h.get? a=some {cls:=.type "list",data:=.seq k.toArray}/\IntsAre k b/\b.length<=n:=by
 have i:=(pre_splitW hpre).1;have o:l.pre.holds [] {args:=args}=true:=(pre_splitW hpre).2;obtain⟨d,r,rfl,s,t⟩:=hasAllW_cons i;obtain rfl:=hasAllW_nil t;obtain⟨xs,rfl,u⟩:=hasW_list s;obtain⟨b,rfl⟩:=items_int u
 have e:b.length<=n:=by
  have f:=by have f:=(holds_andW o).1;rw[p]at f;exact f
  have j:=condW_of f (w_not (w_lt w_lit (w_len_list (w_arg rfl))));refine Nat.le_of_not_lt λq=>?_;have m:=by omega
  first
   |(rw[dT0 m]at j;exact absurd j (by decide))
   |(simp at j;lia)
 cases hwl with
 |cons w1 w2=>
  cases w2
  cases w1 with
  |list ho hall=>exact⟨_,_,b,rfl,rfl,ho,MA b _ hall,e⟩
theorem Ih(l:OpenLaw)(args):l.row.toRowW.claim.post args (.bool true) args=true:=
 postW_of
  (by first |rfl|decide|simp[WShape.has,WShape.arms,WShape.armsAll])
  (w_eq_bool (w_res rfl) w_lit) rfl
def attach_call{l:OpenLaw}
  (hn:l.most=some n) (hdf:d.params.defaults=[])
  (call: ∀ w  e b  mg B  s  o  y u i  a  j  v ,
   Ground q loose [] XP w e mg B b.heap->YP w b.heap->
   b.heap.get? s=some o->o.data=.func (docDef d.name d.params d.body d.scope y u i)->b.heap.CodeRec u d.name->mg d.name=some (.ref s)->
   b.heap.get? a=some {cls:=.type "list",data:=.seq j.toArray}->IntsAre j v->v.length<=n->b.gens=#[]->
   codeAny (model l.prog w) callerA (.call (.ref s) ⟨[.ref a],[]⟩) (λr t=>r=.ok (.ret (.bool true))/\OldK b.heap t.heap/\t.os=b.os/\AllBare t.gens) b):
  WalkO q loose XP YP l.row.toRowW d [] (λf j=>PySem.call f j):=by
 intro w e b mg B G Y s o y u i K kV T J z D C O E F as p H P A L;obtain rfl:K=.none:=Dflts.none D hdf;obtain rfl:kV=.none:=Dflts.noKw D;obtain⟨a,j,v,rfl,rfl,m,h,k⟩:=Ig hn p A;refine enter_call (đ (call w e b mg B s o y u i a j v G Y T (fd_plain J) z C m h k O) λr t M=>?_);obtain⟨rfl,S,N,Q⟩:=M;exact⟨.inl ⟨_,_,[],rfl,λ_=>rfl,.bool true,Ih l _,λ_=>⟨List.Pairwise.nil,λ_ I=>(nomatch I)⟩⟩,S,N,Q⟩
end Att
namespace L2
open PySem PySem.Spec PyProof.Rows
theorem RW: ∀{a}{ns},IntsAre a ns->Vals (ns.map V.int) a
 |_,_,.nil=>.nil
 |_,_,.cons n t h=>.cons ⟨t,rfl⟩ (RW h)
def Li(H:Hp):Prop:= ∀b,H b=none\/ ∃o xs,H b=some (.frz o (.lst xs))
def Lj{K:P0}
  (KX:K.In s₁.heap) (hns:s₁.heap.Ns mainGlobals mg) (i:s₁.heap.Ns builtinsNs mb) (hbb: ∀x:Str,x≠"__name__"->mb x=bootBuiltins x) (hlim:s₁.heap.NoLimit) (hg:s₁.gens=#[])
  (ha:s₁.heap.get? a=some {cls:=.type "list",data:=.seq vs.toArray}) (hi:IntsAre vs ns) (hl:ns.length<=sizeLine) (hr:Room k callerA)
  (F: ∀base:Heap,K.In base->base.Ns mainGlobals mg->FnOk P w K mg base CX k fa fd [x] sp) (hbind: ∀ s  u ,BindsTo s fd ⟨[u],[]⟩ [(x,u)])
  (hsp: ∀H:Hp,Li H->SqL K H a (ns.map V.int)->sp [.ref a] H (λv _=>v=.bl true) λ_ _ _=>False)
  (hCX: ∀H e j,CX [] H s₁ (λ_ _ _=>False) e j->False):
  codeAny (model P w) callerA (.call (.ref fa) ⟨[.ref a],[]⟩) (λr j=>r=.ok (.ret (.bool true))/\OldK s₁.heap j.heap/\j.os=s₁.os/\AllBare j.gens) s₁:=by
 have M:=RW hi;have y:=hi.length
 have t: ∀H:Hp,Li H->SqL K H a (ns.map V.int)->HOk P w H s₁.heap->(∀b,H b≠none->b=a)->(H a≠none->K.lookup a=none)->
   codeAny (model P w) callerA (.call (.ref fa) ⟨[.ref a],[]⟩) (λr j=>r=.ok (.ret (.bool true))/\OldK s₁.heap j.heap/\j.os=s₁.os/\AllBare j.gens) s₁:=by
  intro H O hS E N S;have f: ∀{b:Addr}{o:Obj},s₁.heap.get? b=some o->H b=none->(Hu s₁.heap H).get? b=some o:=λe n=>Ko e n
  have J: ∀{b:Addr}{o:Obj}{es:Array DictEntry}{A:Nat},s₁.heap.get? b=some o->o.data=.dict es A->H b=none:=λ{b o es A} e d=>by
   cases q:H b with
   |none=>rfl
   |some u=>
    have I:b=a:=N b (by rw[q];simp);subst I;rw[ha]at e;cases e;have X:Data.seq vs.toArray _=Data.dict es A:=d;cases X
  have p: ∀{b:Addr}{m:K0},s₁.heap.Ns b m->(Hu s₁.heap H).Ns b m:=λ{b m} ⟨o,es,A,e,d,r⟩=>⟨o,es,A,f e (J e d),d,r⟩
  have D:K.In _:=λb o e=>f (KX b o e) (by
   cases q:H b with
   |none=>rfl
   |some u=>
    have I:b=a:=N b (by rw[q];simp);subst I;rw[S (by rw[q];simp)]at e;cases e)
  have U:Mod K mg _:=⟨D,p hns,⟨mb,p i,hbb⟩,let ⟨T,Y,Z⟩:=hlim;⟨T,p Y,Z⟩⟩
  have e0:Env0 P w K mg _ callerA [] s₁ H:=⟨rfl,U,λb o e=>Rf e,Nat.le_of_eq (Hw _ _),trivial,λb i=>absurd (show b∈([]:B9)from i) (by simp),E,.of_eq hg⟩
  refine đ ((F _ D (p hns)).run callerA [] s₁ H ⟨_,[]⟩ [.ref a] [.ref a] _ _ hr e0 (hbind s₁ (.ref a)) (.cons rfl .nil) (hsp H O hS)) λr j h=>?_
  cases r with
  |error e=>exact(hCX H e j h).elim
  |ok fl=>
   cases fl with
   |next=>exact False.elim h
   |brk=>exact False.elim h
   |cont=>exact False.elim h
   |ret u=>
    obtain⟨v,H',os,bare,un,C,W,q⟩:=h;have Q:v=.bl true:=q;subst Q;obtain rfl:u=Value.bool true:=W;refine⟨rfl,OldK.of_keep λb o e=>?_,os,bare⟩
    cases q:H b with
    |none=>exact un.keep b o e q (by intro z;exact absurd (show b∈([]:B9)from z) (by simp)) (by simp)
    |some u=>
     rcases O b with z|⟨ob,xs,z⟩
     .rw[q]at z;cases z
     .have z2:=un.frzs b ob _ z;obtain⟨L,_⟩:=E b _ z;obtain⟨e2,_⟩:=C b _ z2;rw[e]at L;cases L;exact e2
 cases G:K.lookup a with
 |some o=>
  have e:=KX a o G;rw[ha]at e;cases e;refine t (λ_=>none) (λ_=>.inl rfl) (.inr ⟨_,_,_,G,rfl,rfl,rfl,by rw[sA,y];exact hl,by simpa using M⟩) (λb u z=>by have B:_=some u:=z;cases B) (λb z=>absurd rfl z) λz=>absurd rfl z
 |none=>
  refine t (λb=>if b=a then some _ else none) (λb=>?_) (.inl (.inr ⟨{cls:=.type "list",data:=.seq vs.toArray},iP rfl⟩)) (λb u z=>?_) (λb z=>?_) λ_=>G
  .by_cases i:b=a
   .exact .inr ⟨_,_,iP i⟩
   .exact .inl (iN0 i)
  .by_cases i:b=a
   .have B:=(iP i).symm.trans z;cases B;subst i;exact⟨ha,by rw[lM0];exact hl,vs,_,M,ha⟩
   .have B:=(iN0 i).symm.trans z;cases B
  .by_cases i:b=a
   .exact i
   .exact absurd (iN0 i) z
def walk_of{l:PySem.W.OpenLaw}{K:Params->PySem.W.Frag}{CX:World->Ib}{sp:World->Sp}
  (hn:l.most=some n) (hn2:n<=sizeLine) (hdf:d.params.defaults=[]) (hr:Room k callerA)
  (hY: ∀ w  h ,YP w h->(K w.params).In h)
  (F: ∀ w  mg  t  h ,(K w.params).In h->h.Ns mainGlobals mg->mg d.name=some (.ref t)->
   ∃A:FuncData,(∀ s  u ,BindsTo s A ⟨[u],[]⟩ [(x,u)])/\
    ∀base:Heap,(K w.params).In base->base.Ns mainGlobals mg->FnOk l.prog w (K w.params) mg base (CX w) k t A [x] (sp w))
  (hsp: ∀ w  H  a (r:Za),r.length<=n->Li H->SqL (K w.params) H a (r.map V.int)->sp w [.ref a] H (λv _=>v=.bl true) λ_ _ _=>False)
  (hCX: ∀ w  H  s  e  y ,CX w [] H s (λ_ _ _=>False) e y->False):
  PySem.W.WalkO q loose XP YP l.row.toRowW d [] (λf C=>PySem.call f C):=by
 refine Att.attach_call hn hdf λw B p mg S t o P Q J a C r G Y U O D z m j i I=>?_;have KX:=hY w _ Y;obtain⟨A,L,E⟩:=F w mg t _ KX G.T.g z;exact Lj KX G.T.g G.T.b G.T.builtins G.T.nolimit I m j (ç i hn2) hr E L (λH M N=>hsp w H a r i M N) λH e y=>hCX w H p e y
noncomputable def inClass(s:Stmt)(j:Nat):Stmt:=match s with
 |.ClassDef _ _ _ body _ _ _ _ _ _ _=>body.getD j (.Pass ⟨0,0,0,0⟩)
 |_=>.Pass ⟨0,0,0,0⟩
noncomputable def rD(s:Stmt):Arguments:=match s with
 |.FunctionDef _ a _ _ _ _ _ _ _ _=>a
 |_=>{posonlyargs:=[],args:=[],vararg:=none,kwonlyargs:=[],kw_defaults:=[],kwarg:=none,defaults:=[]}
noncomputable def gR(s:Stmt):List Stmt:=match s with
 |.FunctionDef _ _ b _ _ _ _ _ _ _=>b
 |_=>[]
noncomputable def zG(s:Stmt):Scope:=match s with
 |.FunctionDef _ _ _ _ _ _ sc _ _ _=>sc
 |_=>{kind:=.function,names:=[],isGenerator:=false,isCoroutine:=false}
abbrev LD:Ib:=λ_ _ _ _ _ _=>False
abbrev E0:XK:=λ_ _ _=>False
def U4:JC LD X E0:=λ_ _ _ _ _ _ _ h=>h.elim
structure Fun(K:P0)(x qual:Str)(st:Stmt)(f:Addr)(fd:FuncData):Prop where
 ex: ∃(oc:ĵ)(od:Option Addr)(kV doc pm:ĵ)(an:Option Addr)(cdv ct:ĵ)(osl:Array (Option ĵ)),
  fd=PySem.W.fnOf x qual (rD st) (gR st) (zG st) .none kV doc pm an cdv ct/\K.lookup f=some ⟨oc,od,.func fd,osl⟩/\PySem.W.codeIn K cdv qual=true
 kp:PySem.W.keepIn K (.ref f)=true
section
variable{K:P0}
def Fun.ok{st:Stmt}(F:Fun K x qual st f fd)(S:FnScope N ps (zG st))(len: ∀d H Q E,sp d H Q E->d.length=ps.length)
  (hbody: ∀ b  A  a  s  H  d  Q  E ,Room k (A.deeper (envOfC qual (zG st) ↑0 f b))->sp d H Q E->
   ∃t,PSs (LZ LD P w K mg base N qual (zG st) f b A a s H E).nox (gR st) t/\t {nx:=λ_ H'=>Q .non H',rt:=Q} (start N d) H):FnOk P w K mg base LD (k+1) f fd ps sp:=by
 obtain⟨u,v,kV,o,y,r,b,p,j,rfl,m,i⟩:=F.ex;refine Wo m i S len λA a s H d Q E n e=>?_;obtain⟨t,h,q⟩:=hbody b A a s H d Q E n e;exact⟨t,h.nox,q⟩
def Fun.binds{st:Stmt}(F:Fun K x qual st f fd)
  (h: ∀ kV a j  e  b d  i ,i.length=ps.length->bindArgs (PySem.W.fnOf x qual (rD st) (gR st) (zG st) .none kV a j e b d) ⟨i,[]⟩=pure (ps.zip i)):Binds K fd ps []:=by
 obtain⟨p,n,kV,a,j,e,b,d,k,rfl,o,m⟩:=F.ex;exact .all (h kV a j e b d)
def Lk{st:Stmt}{kV:ĵ}(l:K.lookup f=some ⟨oc,od,.func (PySem.W.fnOf x qual (rD st) (gR st) (zG st) .none kV doc pm an cdv ct),osl⟩)
  (c:PySem.W.codeIn K cdv qual=true) (k:PySem.W.keepIn K (.ref f)=true):Fun K x qual st f (PySem.W.fnOf x qual (rD st) (gR st) (zG st) .none kV doc pm an cdv ct):=⟨⟨oc,od,kV,doc,pm,an,cdv,ct,osl,rfl,l,c⟩,k⟩
end
section
variable{X:Cx}
def pv(i){pos:Pos}(b:X.N[i]? =some x:=by rfl)(hv:Rh X.env.scope x:=by first |exact Or.inl rfl|exact Or.inr (Or.inl rfl)|exact Or.inr (Or.inr rfl))(a:(x==("__debug__"))=false:=by decide)
  (hcd:(x==("__classdict__"))=false:=by decide):PE X (.Name x pos) (Q1 i):=NN b hv a hcd
end
end L2
set_option maxHeartbeats 4000000
namespace L2
open PySem PySem.Spec PyProof.Rows
noncomputable def BO(env:Env)(l:List (Str×NameKind))(a:List (Str×Addr)):List (Str×Addr):=
 l.foldl (λc y=>if y.2==.free then(y.1,(env.cells.lookup y.1).getD 0)::c else c) a
def UO{α:Type}{l:List α}{f:α->β->Sem (ForInStep β)}{g:β->α->β}: ∀ c ,(∀x∈l, ∀c,f x c=pure (.yield (g c x)))->
  forIn l c f=pure (l.foldl g c):=by
 induction l with
 |nil=>intro c _;rfl
 |cons x l ih=>
  intro c h;rw[forIn_cons,h x mF0];exact ih _ λy a=>h y (mO _ a)
def FG(h: ∀y∈scope.names,y.2=.free-> ∃c,env.cells.lookup y.1=some c):closureFor scope env=pure (BO env scope.names []):=by
 unfold closureFor BO;dsimp only;rw[UO [] ?_]
 .rfl
 .intro y i c;obtain⟨n,k⟩:=y;by_cases d:k=.free
  .subst d;obtain⟨a,f⟩:=h _ i rfl;have b:=f;simp[cellOf,b]
  .have e:=by simpa using d
   simp[e]
theorem LE: ∀ l  b ,(∀y∈l,y.2=.free-> ∃c,env.cells.lookup y.1=some c)->(∀p∈b,env.cells.lookup p.1=some p.2)->
  ∀p∈BO env l b,env.cells.lookup p.1=some p.2
 |[],_,_,h=>h
 |(n,k)::l,b,hl,h=>by
  refine LE l _ (λy j=>hl y (mO _ j)) λp d=>?_;by_cases f:k=.free
  .subst f;obtain⟨c,i⟩:=hl _ mF0 rfl;have e:=i;have a:p∈_::b:=d;rcases mC.mp a with rfl|d
   .show env.cells.lookup n=some _;rw[e];rfl
   .exact h p d
  .have a:p∈(if _=true then _::b else b):=d;rw[iN0 (by simpa using f)]at a;exact h p a
theorem NT: ∀ l  a  p ,p∈a->p∈BO env l a
 |[],_,_,h=>h
 |_::l,a,p,h=>by
  refine NT l _ p ?_;show p∈(if _=true then _::a else a);split
  .exact mO _ h
  .exact h
theorem BP: ∀ l  a  n ,(n,NameKind.free)∈l-> ∃c,(n,c)∈BO env l a
 |[],_,_,h=>nomatch h
 |(m,k)::l,a,n,h=>by
  rcases mC.mp h with e|h
  .have b:=congrArg Prod.fst e;have d:=congrArg Prod.snd e;subst b d;exact⟨_,NT l _ _ mF0⟩
  .exact BP l _ n h
theorem cT{β:Type}: ∀{l:List (Str×β)}{n},(∃c,(n,c)∈l)-> ∃c,l.lookup n=some c
 |[],_,h=>let ⟨_,z⟩:=h;nomatch z
 |(m,b)::l,n,h=>by
  by_cases e:n=m
  .subst e;exact⟨b,by simp[Ğ]⟩
  .obtain⟨c,f⟩:=h;rcases mC.mp f with z|z
   .cases z;exact absurd rfl e
   .obtain⟨a,h'⟩:=cT ⟨c,z⟩;refine⟨a,?_⟩;have d:(n==m)=false:=by simpa using e
    simp[Ğ,d,h']
noncomputable def Ll(a b:Scope):List (Str×NameKind):=a.names.map λ(n,k)=>if(k==.free&&b.kind==.function&&b.names.lookup n==some .cell)then(n,.cell)else(n,k)
noncomputable def rE(a:Scope)(N:C0)(b:Scope)(d:Db):Bool:=
 decide (b.kind=.function)&&b.names.all (λy=>decide (b.names.lookup y.1=some y.2))&&
 b.names.all (λy=>decide (y.2≠.free) || decide (a.names.lookup y.1=some .cell) || decide (a.names.lookup y.1=some .free))&&
 d.all (λi=>match N[i]? with
  |some y=>(decide (a.names.lookup y=some .cell) || decide (a.names.lookup y=some .free))&&decide (b.names.lookup y=some .free)
  |none=>false)
abbrev Br(env:Env)(a:Scope)(C:Addr):List (Str×Addr):=cellsFrom (C+1) a.names (BO env a.names [])
theorem jQ: ∀ l  n  a ,cellsFrom n l a=cellsFrom n l []++a
 |[],n,a=>rfl
 |_::l,n,a=>by
  unfold cellsFrom;split
  .rw[jQ l _ _,jQ l _ [_],aA];rfl
  .exact jQ l n a
theorem HK: ∀ l  n {x}{c},(x,c)∈cellsFrom n l []->(x,NameKind.cell)∈l/\n<=c
 |[],n,x,c,h=>nomatch h
 |(y,k)::l,n,x,c,h=>by
  unfold cellsFrom at h;split at h
  .rename_i f;rw[jQ]at h;rcases ê.mp h with h|h
   .obtain⟨a,d⟩:=HK l _ h;exact⟨mO _ a,by lia⟩
   .have e:=mS0.mp h;cases e;have b:=by simpa using f
    subst b;exact⟨mF0,à _⟩
  .obtain⟨a,d⟩:=HK l n h;exact⟨mO _ a,d⟩
def vF(h:(x,c)∈cellsFrom (C+1) l [])(a:n<=C):n<c:=Nat.lt_of_le_of_lt a (HK l _ h).2
theorem EF: ∀ l  n {x},(x,NameKind.cell)∈l-> ∃c,(x,c)∈cellsFrom n l []
 |[],n,x,h=>nomatch h
 |(y,k)::l,n,x,h=>by
  unfold cellsFrom;rcases mC.mp h with e|h
  .cases e;rw[jQ];exact⟨n,î _ mF0⟩
  .split
   .obtain⟨c,a⟩:=EF l _ h;rw[jQ];exact⟨c,ÿ _ a⟩
   .exact EF l n h
theorem own_apart: ∀ l  n ,(cellsFrom n l []).Pairwise λx y=>x.2≠y.2
 |[],n=>List.Pairwise.nil
 |_::l,n=>by
  unfold cellsFrom;split
  .rw[jQ];refine List.pairwise_append.mpr ⟨own_apart l _,List.pairwise_singleton _ _,λa f b d e=>?_⟩;rw[mS0.mp d]at e;have:=(HK l _ f).2;exact û this e
  .exact own_apart l n
theorem vG{β:Type}(x): ∀(l m:List (Str×β)),(l++m).lookup x=(l.lookup x).or (m.lookup x)
 |[],m=>rfl
 |(y,b)::l,m=>by
  rw[List.cons_append,Ğ,Ğ]
  cases x==y with
  |true=>rfl
  |false=>exact vG x l m
theorem RX{β:Type}: ∀{l:List (Str×β)},(∀c,(x,c)∉l)->l.lookup x=none
 |[],_=>rfl
 |(y,b)::l,h=>by
  rw[Ğ]
  cases e:x==y with
  |true=>rw[beq_iff_eq.mp e]at h;exact absurd mF0 (h b)
  |false=>exact RX λc a=>h c (mO _ a)
def nN(e:(Br env sc C).lookup x=some c):(x,c)∈cellsFrom (C+1) sc.names []\/(BO env sc.names []).lookup x=some c:=by
 unfold Br at e;rw[jQ,vG]at e
 cases z:(cellsFrom _ sc.names []).lookup x with
 |some c'=>rw[z]at e;cases e;exact .inl (PySem.mem_of_lookup z)
 |none=>rw[z]at e;exact .inr e
def Zi(h:(x,NameKind.cell)∈sc.names)(e:(Br env sc C).lookup x=some c):(x,c)∈cellsFrom (C+1) sc.names []:=by unfold Br at e;rw[jQ,vG]at e;obtain⟨a,h'⟩:=cT (EF sc.names _ h);rw[h']at e;cases e;exact PySem.mem_of_lookup h'
theorem Sa(h:(x,NameKind.cell)∉sc.names):(Br env sc C).lookup x=(BO env sc.names []).lookup x:=by unfold Br;rw[jQ,vG,RX λc a=>h (HK _ _ a).1];rfl
noncomputable def BQ(σ:St)(a:Db):St:=a.map λi=>(σ[i]?).join
def nA(σ)(idx):(BQ σ idx).length=idx.length:=by unfold BQ;rw[lM0]
def zS(X:Cx)(sc:Scope)(T:C0)(idx:Db)(C:Addr)(s₂:Ĵ)(H1:Hp)(fp:B9):Cx where
 prog:=X.prog
 w:=X.w
 K:=X.K
 mg:=X.mg
 base:=X.base
 A:=X.A
 N:=T++idx.map λi=>(X.N[i]?).getD Str.empty
 s₀:=s₂
 H₀:=H1
 env:=compEnvC sc (Br X.env sc C) C X.env
 outer:=X.stack
 stack:=X.stack
 ex:=fp
 fn:=λx=>sc.names.lookup x==some .cell
 calm:=X.calm
 pn:=[]
 xe:=λ_ _=>False
def RY(q:TI)(g:TG)(r:Addr->Ĵ->Hp->List Addr->TT)(s:Addr->Ĵ->Hp->List Addr->TE)(nt:Nat)(j:Db):TE:=λσ H Q=>q σ H λJ n=> ∃W:Nat->Nat->List V->Hp->Prop,(∃m,W 0 m [] n)/\ ∀i m e f,W i m e f->e.length<=sizeLine/\
 ((J.stop i f/\ ∀D,f D=none->Q (.ref D) (jL f D (.lst e)))\/
   (J.go i f/\e.length<sizeLine/\ ∀x o,J.yld i f x o-> ∀τ:St,τ.length=nt->g x (τ++BQ σ j) o λd p=>(∃h,d=h++BQ σ j/\h.length=nt)/\
    ∀C a fp,r C a n fp d p λb H5=>if b=true then s C a n fp d H5 λy H6=> ∃k,k<m/\W (i+1) k (e++[y]) H6 else∃k,k<m/\W (i+1) k e H5))
section
def UP(I:Nat->Ĵ->Prop)
  (turn: ∀n s,I n s->wpAny (model prog w) A (pyNext it) (λr b=>match r with
   |none=>R (.ok .next) b
   |some v=>wpAny (model prog w) A (letOwnedTupleGo target it v) (λ_ d=>wpAny (model prog w) A (assign target env v) (λ_ j=>
     wpAny (model prog w) A (forIn ifs true λc r=>if r=true then do let ok <-isTrue c env (eval c env);pure (ForInStep.yield ok)else pure (ForInStep.yield r)) (λok a=>
      if ok=true then wpAny (model prog w) A (eval elt env) (λx i=>
       wpAny (model prog w) A (call (.builtin "list.append") [acc,x]) (λ_ k=> ∃m,m<n/\I m k) (λ_ _=>False) i) (λ_ _=>False) a
      else∃m,m<n/\I m a) (λ_ _=>False) j) (λ_ _=>False) d) (λ_ _=>False) b) (λ_ _=>False) s)
  (n) (h:I n s):codeAny (model prog w) A (.compLoop (.ListComp elt [⟨target,iter,ifs,0⟩] scope pos) 0 it acc env) R s:=by
 refine codeAny_loop rfl I (λn s C=>?_) n h;show wpAny _ A _ _ _ s;refine wpAny_noted ?_;have p: ∀{B:VP}(v:ĵ)(y:Ĵ),False->B v y:=λ_ _ z=>z.elim;refine wB (ē (wB (ó (turn n s C) (λr b e=>?_) (p))))
 cases r with
 |none=>exact wP e
 |some v=>
  refine wB (ó e (λ_ d o=>wB (ó o (λ_ j q=>wB (ó q (λok a f=>?_) p)) p)) p)
  cases ok with
  |false=>exact wP ⟨rfl,f⟩
  |true=>
   exact wB (wB (ó f (λx i u=>wB (ó u (λ_ k t=>wP (wP ⟨rfl,t⟩)) p)) p))
end
def UQ(X:Cx)(a:O0)(t:TT):Prop:=
 ∀(pins:L1)(s:Ĵ)(σ:St)(H:Hp)(Q:Bool->Hp->Prop),Inv X pins σ H s->t σ H Q->
  wpAny ↑6 X.A (forIn a true λc r=>if r=true then do let ok <-isTrue c X.env (eval c X.env);pure (ForInStep.yield ok)else pure (ForInStep.yield r)) (TP X pins σ Q) X.xe s
def U5:TT:=λ_ H Q=>Q true H
def Lm:UQ X [] U5:=λ_ _ _ H _ I h=>wpAny_tests_nil ⟨H,I,h⟩
def Ln(h:PT X c t):UQ X [c] t:=λpins s σ H Q I q=>wpAny_tests_one (h pins s σ H Q I q)
structure CompF(osc:Scope)(N:C0)(sc:Scope)(idx:Db):Prop where
 kind:sc.kind=.function
 uni: ∀y∈sc.names,sc.names.lookup y.1=some y.2
 frees: ∀y∈sc.names,y.2=.free->osc.names.lookup y.1=some .cell\/osc.names.lookup y.1=some .free
 cap: ∀i∈idx, ∃y,N[i]? =some y/\(osc.names.lookup y=some .cell\/osc.names.lookup y=some .free)/\sc.names.lookup y=some .free
def CompF.locs(F:CompF osc N sc idx): ∀y∈sc.names,y.2=.local->sc.names.lookup y.1=some .local:=λy a e=>by rw[F.uni y a,e]
def Ei(h:rE osc N sc idx=true):CompF osc N sc idx:=by
 unfold rE at h;simp only[aE,ì,ċ,Bool.or_eq_true]at h;obtain⟨⟨⟨b,f⟩,j⟩,d⟩:=h;refine⟨b,λy a=>f y a,λy a e=>?_,λi hi=>?_⟩
 .rcases j y a with(z|z)|z
  .exact absurd e z
  .exact .inl z
  .exact .inr z
 .have q:=d i hi
  cases e:N[i]? with
  |none=>rw[e]at q;cases q
  |some y=>
   rw[e]at q;simp only[aE,ċ,Bool.or_eq_true]at q;exact⟨y,rfl,q.1,q.2⟩
def Lo(h:(Ll sc osc).lookup x=some .cell\/(Ll sc osc).lookup x=some .free):(x,NameKind.free)∈sc.names\/(x,NameKind.cell)∈sc.names:=by
 have a: ∀b,(b=.cell\/b=.free)->(x,b)∈Ll sc osc->(x,NameKind.free)∈sc.names\/(x,NameKind.cell)∈sc.names:=by
  intro b f j;obtain⟨⟨n,k⟩,d,e⟩:=mM0.mp j;dsimp only at e;split at e
  .rename_i i;cases e;rw[aE,aE]at i;have:=by simpa using i.1.1
   subst this;exact .inl d
  .cases e;rcases f with rfl|rfl
   .exact .inr d
   .exact .inl d
 rcases h with h|h
 .exact a _ (.inl rfl) (PySem.mem_of_lookup h)
 .exact a _ (.inr rfl) (PySem.mem_of_lookup h)
theorem RZ{a:Scope}{x:Str}: ∀{l:List (Str×NameKind)},l.lookup x=some .free->(l.map λ(n,k)=>if(k==NameKind.free&&a.kind==.function&&a.names.lookup n==some .cell)then(n,NameKind.cell)else(n,k)).lookup x=some .cell\/(l.map λ(n,k)=>if(k==NameKind.free&&a.kind==.function&&a.names.lookup n==some .cell)then(n,NameKind.cell)else(n,k)).lookup x=some .free
 |[],h=>by simp at h
 |(n,k)::l,h=>by
  have d:=@RZ a x l;rw[Ğ]at h;rw[è];by_cases e:(k==NameKind.free&&a.kind==.function&&a.names.lookup n==some .cell)=true
  .dsimp only;rw[iP e,Ğ]
   cases b:x==n with
   |true=>exact .inl rfl
   |false=>rw[b]at h;exact d h
  .dsimp only;rw[iN0 e,Ğ]
   cases b:x==n with
   |true=>rw[b]at h;exact .inr h
   |false=>rw[b]at h;exact d h
section
variable{C:Addr}{fp:B9}
def NU(I:Inv X pins σ H1 s₂)(F:CompF X.env.scope X.N sc idx): ∀y∈sc.names,y.2=.free-> ∃c,X.env.cells.lookup y.1=some c:=
 λy a e=>I.ok.has y.1 (F.frees y a e)
def jR(I:Inv X pins σ H1 s₂)(F:CompF X.env.scope X.N sc idx)(e:(BO X.env sc.names []).lookup x=some c):X.env.cells.lookup x=some c:=
 LE sc.names [] (NU I F) (λ_ z=>nomatch z) _ (PySem.mem_of_lookup e)
def Sb(I:Inv X pins σ H1 s₂)(F:CompF X.env.scope X.N sc idx)(a:(x,NameKind.free)∈sc.names)(e:X.env.cells.lookup x=some c):(BO X.env sc.names []).lookup x=some c:=by obtain⟨b,h'⟩:=cT (BP sc.names [] x a);rw[h'];rw[jR I F h']at e;exact e
def Ii(I:Inv X pins σ H1 s₂)(F:CompF X.env.scope X.N sc idx)(hC:s₂.heap.objs.size<=C)(hfp: ∀b∈fp,pE X pins H1 b)(hlt: ∀b∈fp,b<s₂.heap.objs.size):(zS X sc T idx C s₂ H1 fp).Ok where
 mod:=I.ok.mod
 kind:=F.kind
 glob:=I.ok.glob
 blt:=I.ok.blt
 above:=hC
 inj:=λx y c h1 h2=>by
  have low: ∀z,(BO X.env sc.names []).lookup z=some c->c<s₂.heap.objs.size:=λz h=>let ⟨v,q⟩:=I.cell z c (jR I F h);q.lt;rcases nN h1 with z1|z1<;>rcases nN h2 with z2|z2
  .exact PySem.name_of_addr (own_apart sc.names (C+1)) z1 z2
  .exact absurd (low y z2) (Nat.not_lt.mpr (le_of_lt (vF z1 hC)))
  .exact absurd (low x z1) (Nat.not_lt.mpr (le_of_lt (vF z2 hC)))
  .exact I.ok.inj x y c (jR I F z1) (jR I F z2)
 has:=λx hx=>by
  have hx':(Ll sc X.env.scope).lookup x=some .cell\/(Ll sc X.env.scope).lookup x=some .free:=hx;show∃c,(Br X.env sc C).lookup x=some c;unfold Br;rw[jQ];rcases Lo hx' with z|z
  .obtain⟨c,hc⟩:=BP sc.names [] x z;exact cT ⟨c,î _ hc⟩
  .obtain⟨c,hc⟩:=EF sc.names (C+1) z;exact cT ⟨c,ÿ _ hc⟩
 cab:=λx c h e=>by have h':sc.names.lookup x=some .cell:=beq_iff_eq.mp h;exact le_of_lt (vF (Zi (PySem.mem_of_lookup h') e) hC)
 hd:=I.ok.hd
 frames:=I.ok.frames
 stk:=.inl rfl
 exf:=λb hb=>⟨é (æ (hlt b hb) hC),λx c e=>by
  rcases nN e with z|z
  .exact û (lt_trans (hlt b hb) (vF z hC))
  .exact(hfp b hb).2.2.2.2.1 x c (jR I F z)⟩
 bs:=I.bs
 bsz:=ç I.ok.bsz I.sz
 noex:=λb o e hb=>by
  rcases (hfp b hb).2.2.2.1 with z|z
  .exact I.ok.noex b o e z
  .exact absurd (æ (ã e) (ç I.ok.bsz z)) (ĳ _)
 exfs:=λb hb z=>by
  rcases mC.mp (I.stkSub b z)with e|e
  .exact(hfp b hb).2.1 e
  .exact(hfp b hb).2.2.1 e
 funs:=I.stack
 frf:=I.stkFree
theorem NV(I:Inv X pins σ H1 s₂)(F:CompF X.env.scope X.N sc idx)(t:s₂.heap.objs.size<=C)(A: ∀b∈fp,pE X pins H1 b)(w: ∀b∈fp,b<s₂.heap.objs.size)
  (kp: ∀b o,s₂.heap.get? b=some o->s₄.heap.get? b=some o) (ho:s₄.os=s₂.os) (hg:s₄.gens=s₂.gens) (hn:s₄.heap.Ns C m) (hcl: ∀x c,(x,c)∈cellsFrom (C+1) sc.names []->s₄.heap.IsCell c none):
  Inv (zS X sc T idx C s₂ H1 fp) [] (T.map (λ_=>none)++BQ σ idx) H1 s₄:=by
 have f: ∀c v,s₂.heap.IsCell c v->s₄.heap.IsCell c v:=λc v ⟨o,S,U⟩=>⟨o,kp c o S,U⟩
 refine⟨Ii I F t A w,ho,by rw[hg];exact I.bare,Un.kept kp,⟨m,hn,λi x v H d W=>?_⟩,λx c e=>?_,I.hok.fresh t,λx c e=>?_,λp J=>absurd (show p∈([]:List _)from J) (by simp),I.hok.kept kp,?_⟩
 .have h:(T++idx.map λi=>(X.N[i]?).getD Str.empty)[i]? =some x:=H;by_cases hi:i<T.length
  .rw[á (by simpa using hi),ü]at d
   cases z:T[i]? with
   |none=>rw[z]at d;cases d
   |some y=>rw[z]at d;cases d
  .rw[â (by simpa using hi)]at d;rw[â #[0]]at h;rw[lM0]at d;unfold BQ at d;rw[ü]at h d
   cases z:idx[i - T.length]? with
   |none=>rw[z]at d;cases d
   |some j=>
    rw[z]at h d;have O:=ô z;obtain⟨y,E,D,B⟩:=F.cap j O;have L:=by have q:(X.N[j]?).getD Str.empty=x:=å h;rw[E]at q;exact q
    subst L
    have M:σ[j]? =some (some v):=by
     have q:(σ[j]?).join=some v:=å d
     cases G:σ[j]? with
     |none=>rw[G]at q;cases q
     |some a=>rw[G]at q;have K:a=some v:=q;rw[K]
    obtain⟨Y,P,n⟩:=I.loc;have s:Rh X.env.scope y:=D.elim (λz=>.inr (.inl z)) λz=>.inr (.inr z);obtain⟨u,r,l⟩:=n j y v E M s;refine⟨u,r,?_⟩;rcases l with⟨kl,_⟩|⟨_,c,hc,q⟩
    .have k:X.env.scope.names.lookup y=some .local:=kl;rcases D with z|z<;>rw[z]at k<;>cases k
    .have Q:(y,NameKind.cell)∉sc.names:=λz=>by have:=F.uni _ z;rw[B]at this;cases this
     refine .inr ⟨RZ B,c,?_,f c _ q⟩;show(Br X.env sc C).lookup y=some c;rw[Sa Q];exact Sb I F (PySem.mem_of_lookup B) hc
 .rcases nN e with z|z
  .exact⟨none,hcl x c z⟩
  .obtain⟨v,q⟩:=I.cell x c (jR I F z);exact⟨v,f c v q⟩
 .rcases nN e with z|z
  .exact I.hok.fresh (le_of_lt (vF z t))
  .exact I.freeC x c (jR I F z)
 .show(T.map (λ_=>_)++BQ σ idx).length=(T++idx.map λi=>(X.N[i]?).getD Str.empty).length;rw[lA,lA,lM0,lM0,nA]
def NW{D:Addr}(I:Inv X pins σ H1 s₂)(w:s₂.heap.objs.size<=C)(f: ∀b∈fp,pE X pins H1 b)
  (J:Inv (zS X sc T idx C s₂ H1 fp) [] σ1 H' s') (hs:Heap.SameBut C s'.heap h') (hD:s₂.heap.objs.size<=D) (hDC:D≠C) (eD:s'.heap.get? D=some {cls:=.type "list",data:=.seq its.toArray n}) (nD:H' D=none) (r:Vals ys its) (hz:ys.length<=sizeLine):
  Inv X pins σ (jL H' D (.lst ys)) {s' with heap:=h'}:=by
 have h: ∀b o,s₂.heap.get? b=some o->b≠C/\b≠D:=λb o e=>⟨é (æ (ã e) w),é (æ (ã e) hD)⟩
 have d: ∀b u,H1 b=some u->b≠D:=λb u e=>é (æ (I.hok.lt e) hD);have p:=J.free;have B:Un _ fp H1 H' s₂.heap s'.heap:=J.base;have k: ∀b o,b≠C->s'.heap.get? b=some o->h'.get? b=some o:=λb o a e=>(hs.2 b a).trans e;refine I.call' J.os ⟨λb o e q a i=>?_,λb o e q a i=>?_,λb o e q i=>?_,λb o e i=>?_,λb xs e=>?_,λb o u e=>?_,λb ps e=>?_⟩ ?_ J.bare λb a=>⟨(f b a).2.2.2.1,(f b a).2.1,(f b a).2.2.2.2.1,(f b a).2.2.2.2.2⟩
 .exact k b o (h b o e).1 (B.keep b o e q a i)
 .obtain⟨s,z⟩:=B.slot b o e q a i;exact⟨s,k b _ (h b o e).1 z⟩
 .rw[zP (h b o e).2];exact B.free b o e q i
 .obtain⟨m,z⟩:=B.there b o e i;exact⟨m,k b m (h b o e).1 z⟩
 .rw[zP (d b _ e)];exact B.tups b xs e
 .rw[zP (d b _ e)];exact B.frzs b o u e
 .obtain⟨j,z⟩:=B.tbls b ps e;exact⟨j,by rw[zP (d b _ e)];exact z⟩
 .intro b u e;by_cases a:b=D
  .subst a;rw[zV]at e;cases e;exact⟨hz,its,n,r,k b _ hDC eD⟩
  .rw[zP a]at e;refine(J.hok b u e).stay (λc v t q=>k c v ?_ q) (λc q=>by rw[zP (zX q nD)];exact q) λc xs q=>by rw[zP (zX q nD)];exact q
   rcases t with z|z
   .rw[z];exact zX e p
   .exact zX z p
end
section
variable{X:Cx}
def FH
  (e:Q (newEnv scope ↑0 globals (cellsFrom (↑0+1) scope.names closure) qual none .none (some outer) builtinsNs) {s with heap:=pushCells (s.heap.push {cls:=.type "dict",data:=.dict #[]}) scope.names}):
  wpAny M A (newFunctionEnv scope globals closure [] qual none .none (some outer)) Q E s:=by
 simp only[newFunctionEnv,Option.isSome_some,if_true];refine wB (wpAny_alloc ?_);refine wB (wpAny_layCells _ (λd kind b=>by cases a:kind==NameKind.cell<;>simp[a]) _ _ _ _ ?_);rw[show({s with heap:=s.heap.push {cls:=.type "dict",data:=.dict #[]}}:Ĵ).heap.objs.size=↑0+1 from ù ..];exact wB (wP (wP e))
structure TurnC(C:Cx->Prop)(P:Ķ)(w:World)(K:P0)(tg:Expr)(J:It)(fp:B9)(it:Addr)(tn:Nat->Heap->Prop):Prop where
 mem:it∈fp
 obj: ∀i h,tn i h-> ∀b∈fp, ∃o,h.get? b=some o/\ ∀v,o.data≠.cell v
 keep: ∀i h h',tn i h->(∀b∈fp, ∀o,h.get? b=some o->h'.get? b=some o)->tn i h'
 item: ∀(X:Cx),X.prog=P->X.w=w->X.K=K->C X-> ∀(i:Nat)(pins:L1)(s:Ĵ)(σ:St)(H:Hp)(E:VP),Inv X pins σ H s->(∀b∈fp,pE X pins H b)->tn i s.heap->J.go i H->
  wpAny (model P w) X.A (pyNext (.ref it)) (λr s1=> ∃u,r=some u/\
   wpAny (model P w) X.A (letOwnedTupleGo tg (.ref it) u) (λ_ s2=> ∃x H',Inv X pins σ H' s2/\RelV x u/\J.yld i H x H'/\tn (i+1) s2.heap/\ ∀b∈fp,H' b=none) E s1) E s
 done: ∀(X:Cx),X.prog=P->X.w=w->X.K=K->C X-> ∀(i:Nat)(pins:L1)(s:Ĵ)(σ:St)(H:Hp)(E:VP),Inv X pins σ H s->(∀b∈fp,pE X pins H b)->tn i s.heap->J.stop i H->
  wpAny (model P w) X.A (pyNext (.ref it)) (λr s1=>r=none/\Inv X pins σ H s1) E s
 self: ∀(A:Around)(i:Nat)(s:Ĵ)(Q:VP)(E:VP),tn i s.heap->Q (.ref it) s->wpAny (model P w) A (pyIter (.ref it)) Q E s
def PIEC(C:Cx->Prop)(X:Cx)(pins:L1)(σ:St)(tg:Expr)(R:It->Hp->Prop)(a:ĵ)(e:Ĵ):Prop:=
 ∃(d:Addr)(fp:B9)(tn:Nat->Heap->Prop)(J:It)(H':Hp),a=.ref d/\Inv X pins σ H' e/\TurnC C X.prog X.w X.K tg J fp d tn/\tn 0 e.heap/\(∀b∈fp,pE X pins H' b)/\R J H'
def Qz(C:Cx->Prop)(X:Cx)(tg iter:Expr)(a:TI):Prop:=
 ∀(pins:L1)(s:Ĵ)(σ:St)(H:Hp)(R:It->Hp->Prop),Inv X pins σ H s->a σ H R->
  wpAny ↑6 X.A (eval iter X.env) (λv s1=>wpAny ↑6 X.A (pyIter v) (PIEC C X pins σ tg R) X.xe s1) X.xe s
abbrev U6(X:Cx):Prop:=X.calm=true
def PI.c(h:PI X tg iter wi):Qz U6 X tg iter wi:=λpins s σ H R I q=>
 ó (h pins s σ H R I q) (λv s1 z=>ó z (λb i ⟨f,fp,a,J,H',e,d,t,r⟩=>⟨f,fp,a,J,H',e,d,⟨t.mem,t.obj,t.keep,t.item,t.done,t.self⟩,r⟩) λ_ _ z=>z) λ_ _ z=>z
theorem YB(T)(idx)
  (hi:Qz C X tg iter wi) (hCx: ∀c f B fp pins σ,Inv X pins σ B f->C (zS X sc T idx c f B fp)) (hB:rE X.env.scope X.N sc idx=true)
  (hg: ∀C f H1 fp,PG (zS X sc T idx C f H1 fp) tg g)
  (hc: ∀C f H1 fp,UQ (zS X sc T idx C f H1 fp) ifs (tc C f H1 fp))
  (he: ∀C f H1 fp,PE (zS X sc T idx C f H1 fp) elt (te C f H1 fp))
  (hs: ∀x,foldedSetIterable iter X.env x=pure x:=by intro _;rfl)
         (I:↑1) (h:RY wi g tc te T.length idx σ H Q)
  (fin: ∀ D C  M  H'  r ,(∀h',Heap.SameBut C M.heap h'->Inv X pins σ H' {M with heap:=h'})->pE X pins H' C->(∃m,M.heap.Ns C m)->Q (.ref D) H'->
   compPost ↑6 X.A X.xe use Q' (.ref D) C (.ok r) M):
  wpAny ↑6 X.A (comprehension (.ListComp elt [⟨tg,iter,ifs,0⟩] sc pos) sc X.env (firstIterPos [⟨tg,iter,ifs,0⟩] pos) (newList []) false (eval iter X.env) use) Q' X.xe s:=by
 have cf:=Ei hB;refine wpAny_comprehension_free rfl hs (FG (NU I cf)) cf.kind cf.locs ?_;refine kL (hi pins s σ H _ I h) λv s1 h1=>kL h1 λba a h2=>?_;obtain⟨it,fp,tn,J,B,e,P,G,af,f2,W,⟨m0,w0⟩,av⟩:=h2;subst e;have ah: ∀b∈fp,b<a.heap.objs.size:=λb t=>let ⟨o,e,_⟩:=G.obj _ _ af b t;ã e;refine ĥ (FH ?_);dsimp only;generalize ai:a.heap.push {cls:=.type "list",dict:=none,data:=.seq ([]:A0).toArray}=HH;generalize Z:pushCells (HH.push {cls:=.type "dict",data:=.dict #[]}) sc.names=h₁;have U:h₁.Ns HH.objs.size (λ_=>none):=Z▸(Heap.Ns.new HH (.type "dict")).keeps (pushCells_keeps _ _);have hC:HH.objs.size=a.heap.objs.size+1:=by rw[<-ai,ù]
 have S:a.heap.objs.size≠HH.objs.size:=by rw[hC];exact é (Ĝ _)
 have E:a.heap.objs.size<=HH.objs.size:=by rw[hC];exact le_succ _
 have au: ∀b o,HH.get? b=some o->h₁.get? b=some o:=λb o e=>Z▸pushCells_keeps _ _ b o (hP0 _ e);have ae: ∀b o,a.heap.get? b=some o->h₁.get? b=some o:=λb o e=>au b o (ai▸hP0 _ e);have ay:h₁.get? a.heap.objs.size=some {cls:=.type "list",data:=.seq ([]:A0).toArray 0}:=au _ _ (ai▸ä _ rfl);have a3: ∀x c,(x,c)∈cellsFrom (HH.objs.size+1) sc.names []->h₁.IsCell c none:=λx c hm=>by have ok:=cellsFrom_ok sc.names (HH.push {cls:=.type "dict",data:=.dict #[]}) 0 [] ⟨λ_ _ hm=>(nomatch hm),List.Pairwise.nil⟩ (zero_le _);rw[ù,Z]at ok;exact(ok.empty x c hm).1
 have a8:B a.heap.objs.size=none:=P.hok.fresh (à _)
 have cD: ∀x c,(Br X.env sc HH.objs.size).lookup x=some c->c≠a.heap.objs.size:=λx c e=>by
  rcases nN e with z|z
  .exact û (vF z E)
  .obtain⟨v,q⟩:=P.cell x c (jR P cf z);exact é q.lt
 have Y: ∀M:Ĵ,M={a with heap:=h₁}->
   codeAny ↑6 X.A (.compLoop (.ListComp elt [⟨tg,iter,ifs,0⟩] sc pos) 0 (.ref it) (.ref a.heap.objs.size) (compEnvC sc (Br X.env sc HH.objs.size) HH.objs.size X.env))
    (compPost ↑6 X.A X.xe use Q' (.ref a.heap.objs.size) HH.objs.size) M:=by
  rintro M rfl
  have J0:Inv (zS X sc T idx HH.objs.size a B fp) [] (T.map (λ_=>none)++BQ σ idx) B {a with heap:=h₁}:=
   NV P cf E f2 ah ae rfl rfl U a3
  refine UP (λk s'=> ∃(i:Nat)(ys:List V)(j:A0)(n:Nat)(H':Hp)(τ:St),Inv (zS X sc T idx HH.objs.size a B fp) [] (τ++BQ σ idx) H' s'/\τ.length=T.length/\tn i s'.heap/\(∀b∈fp,H' b=none)/\
   s'.heap.get? a.heap.objs.size=some {cls:=.type "list",data:=.seq j.toArray n}/\H' a.heap.objs.size=none/\Vals ys j/\W i k ys H') ?_ m0
   ⟨0,[],[],0,B,_,J0,by rw[lM0],G.keep _ _ _ af λb _ o e=>ae b o e,λb t=>(f2 b t).1,ay,a8,.nil,w0⟩
  rintro k s3 ⟨i,ys,j,n,H3,τ,I3,a4,aw,ar,a7,aa,r3,w3⟩;obtain⟨hz,a9⟩:=av i k ys H3 w3;have ao:a.heap.objs.size∉(zS X sc T idx HH.objs.size a B fp).fs:=λz=>by obtain⟨_,o,ho,_⟩:=P.stack.mem (show a.heap.objs.size∈LB X.stack from z);exact absurd (ã ho) (ĳ _)
  have aq: ∀{H':Hp}{s':Ĵ},s'.heap.get? a.heap.objs.size=some {cls:=.type "list",data:=.seq j.toArray n}->H' a.heap.objs.size=none->
    ∀p∈[(a.heap.objs.size,({cls:=.type "list",data:=.seq j.toArray n}:Obj))],s'.heap.get? p.1=some p.2/\H' p.1=none/\p.1≠(zS X sc T idx HH.objs.size a B fp).env.locals/\p.1∉(zS X sc T idx HH.objs.size a B fp).fs/\ ∀v,p.2.data≠.cell v:=
   λ{H' s'} e1 e2 p L=>by
    have ep:p=(a.heap.objs.size,{cls:=.type "list",data:=.seq j.toArray n}):=by simpa using L
    subst ep;exact⟨e1,e2,S,ao,λv z=>by cases z⟩
  have P3:Inv (zS X sc T idx HH.objs.size a B fp) [_] (τ++BQ σ idx) H3 s3:=I3.pins_of (aq a7 aa)
  have K: ∀{H':Hp},(∀b∈fp,H' b=none)-> ∀b∈fp,pE (zS X sc T idx HH.objs.size a B fp) [_] H' b:=λ{H'} hn b t=>by
   have aj:=ah b t;refine⟨hn b t,é (æ aj E),I3.ok.exfs b t,.inl t,λx c e=>?_,λp L=>?_⟩
   .rcases nN e with z|z
    .exact û (lt_trans aj (vF z E))
    .exact(f2 b t).2.2.2.2.1 x c (jR P cf z)
   have ep:p=(a.heap.objs.size,({cls:=.type "list",data:=.seq j.toArray n}:Obj)):=by simpa [zS]using L
   subst ep;exact û aj
  rcases a9 with⟨stop,q⟩|⟨go,hl2,step⟩
  .refine kL (G.done (zS X sc T idx HH.objs.size a B fp) rfl rfl rfl (hCx _ _ _ _ _ _ P) i _ s3 _ H3 (λ_ _=>False) P3 (K ar) aw stop) λr M ⟨hr,I4⟩=>?_;subst hr;obtain⟨m,hn,_⟩:=id I4.loc;have az:=(I4.pin (a.heap.objs.size,{cls:=.type "list",data:=.seq j.toArray n}) (by simp)).1;exact fin _ _ M _ _ (λh' a5=>NW P E f2 (I4.pins_of (λp L=>nomatch L)) a5 (à _) S az aa r3 hz) (P.fpOk E (by rw[zP (Ne.symm S)];exact I4.free)) ⟨m,hn⟩ (q _ aa)
  .refine kL (G.item (zS X sc T idx HH.objs.size a B fp) rfl rfl rfl (hCx _ _ _ _ _ _ P) i _ s3 _ H3 (λ_ _=>False) P3 (K ar) aw go) λr M ⟨u,hr,h4⟩=>?_;subst hr;refine kL h4 λ_ s5 ⟨x,H5,I5,r5,y5,O,a6⟩=>?_;have a0:=I5.pinned (K a6) (G.obj _ _ O);refine kL (hg HH.objs.size a B fp _ s5 _ H5 x u _ a0 r5 (step x H5 y5 τ a4)) λ_ s6 ⟨a',H6,I6,⟨ab,e6,l6⟩,q6⟩=>?_;subst e6;refine kL (hc HH.objs.size a B fp _ s6 _ H6 _ I6 (q6 HH.objs.size a fp)) λok s7 ⟨H7,I7,q7⟩=>?_
   have mD:(a.heap.objs.size,({cls:=.type "list",data:=.seq j.toArray n}:Obj))∈(zS X sc T idx HH.objs.size a B fp).pn++([(a.heap.objs.size,{cls:=.type "list",data:=.seq j.toArray n})]++GA fp s5.heap):=
    î _ (ÿ _ (by simp))
   have mF: ∀b∈fp, ∀o,s5.heap.get? b=some o->(b,o)∈(zS X sc T idx HH.objs.size a B fp).pn++([(a.heap.objs.size,{cls:=.type "list",data:=.seq j.toArray n})]++GA fp s5.heap):=λb t o e=>
    î _ (î _ (vE t e))
   cases ok with
   |false=>
    rw[iN0 xF0]at q7 ⊢;obtain⟨m',ak,w7⟩:=q7;refine⟨m',ak,i+1,ys,j,n,H7,ab,I7.pins_of (λp L=>nomatch L),l6,G.keep _ _ _ O λb t o e=>(I7.pin _ (mF b t o e)).1,λb t=>?_,(I7.pin _ mD).1,(I7.pin _ mD).2.1,r3,w7⟩;obtain⟨o,e,d⟩:=G.obj _ _ O b t;exact(I7.pin _ (mF b t o e)).2.1
   |true=>
    rw[iP rfl]at q7 ⊢;refine kL (he HH.objs.size a B fp _ s7 _ H7 _ I7 q7) λy s8 ⟨yv,H8,I8,r8,m',ak,w8⟩=>?_;have ag:=(I8.pin _ mD).1;have ax:=(I8.pin _ mD).2.1;have hl:=r3.length;have q:=PySem.IsL.update ag (λz=>z.push y);rw[show j.toArray.push y=(j++[y]).toArray by simp]at q;refine ħ PySem.F.slot_list_append ⟨_,ag,rfl⟩ PySem.F.entry_list_append (PySem.F.args_list_append_2 _ _) (PySem.list_append a.heap.objs.size j.toArray n y (by rw[sA];lia)) ⟨ag,?_⟩;have I9:Inv (zS X sc T idx HH.objs.size a B fp) [] (ab++BQ σ idx) H8 s8:=I8.pins_of (λp L=>nomatch L);have up: ∀b o,b≠a.heap.objs.size->s8.heap.get? b=some o->(s8.heap.update a.heap.objs.size (Obj.mapSeq λz=>z.push y)).get? b=some o:=λb o t e=>(õ s8.heap _ (Ne.symm t)).trans e;refine⟨m',ak,i+1,_,_,_,H8,ab,I9.turned up ax S (.inr (à _)) cD (λp L=>nomatch L),l6,?_,λb t=>?_,q,ax,r3.append (.cons r8 .nil),w8⟩
    .exact G.keep _ _ _ O λb t o e=>up b o (é (ah b t)) (I8.pin _ (mF b t o e)).1
    .obtain⟨o,e,d⟩:=G.obj _ _ O b t;exact(I8.pin _ (mF b t o e)).2.1
 exact codeAny_compStart_list (Y _ rfl) (G.self X.A 0 _ _ _ (G.keep _ _ _ af λb _ o e=>ae b o e) (Y _ rfl))
def Sd(T)(idx)
  (hi:Qz C X tg iter wi) (hCx: ∀c a e fp pins σ,Inv X pins σ e a->C (zS X sc T idx c a e fp)) (hB:rE X.env.scope X.N sc idx=true)
  (hg: ∀C a b fp,PG (zS X sc T idx C a b fp) tg g)
  (hc: ∀C a b fp,UQ (zS X sc T idx C a b fp) ifs (tc C a b fp))
  (he: ∀C a b fp,PE (zS X sc T idx C a b fp) elt (te C a b fp))
  (hs: ∀x,foldedSetIterable iter X.env x=pure x:=by intro _;rfl):
  PE X (.ListComp elt [⟨tg,iter,ifs,0⟩] sc pos) (RY wi g tc te T.length idx):=by
 intro pins s σ H Q I h;exact YB T idx hi hCx hB hg hc he hs I h λD C i H' r J _ ⟨m,f⟩ q=>⟨m,f,λh' d=>⟨.ref D,H',J h' d,rfl,q⟩⟩
end
noncomputable def yZ(x:Db):Str:=⟨x.toArray⟩
def wD(x):(yZ x).length=x.length:=by simp[yZ,Str.length]
def vH(x):(yZ x).cps.toList=x:=by simp[yZ]
def HL(h:yZ x=yZ y):x=y:=by have:=congrArg (λs=>s.cps.toList) h;simpa [yZ]using this
def UR(x y):yZ x++yZ y=yZ (x++y):=by show Str.append _ _=_;simp[Str.append,yZ]
theorem Ej(c):(⟨#[c]⟩)=yZ [c]:=rfl
def cU{α:Type}(xs:List α)(lo hi:N0):List α:=(xs.drop (HT.sIx xs.length 0 lo)).take (HT.sIx xs.length xs.length hi - HT.sIx xs.length 0 lo)
theorem strIdx(lo hi)(n):Builtin.Str.strSliceIndices lo hi 1 n=(List.range (HT.sIx n n hi - HT.sIx n 0 lo)).map (HT.sIx n 0 lo+·):=by
 have a:(match lo with |none=>(if(1:Int)>0 then(0:Int)else(n:Int) - 1)|some i=>if(1:Int)>0 then max 0 (min (if i<0 then i+(n:Int)else i) (n:Int))else max (-1) (min (if i<0 then i+(n:Int)else i) ((n:Int) - 1)))=((HT.sIx n 0 lo:Nat):Int):=by
  cases lo with
  |none=>simp[HT.sIx]
  |some i=>
   simp only[HT.sIx,show(1:Int)>0 by decide,if_true];by_cases h:i<0
   .simp only[h,if_true];lia
   .simp only[h,iF];lia
 have b:(match hi with |none=>(if(1:Int)>0 then(n:Int)else -1)|some i=>if(1:Int)>0 then max 0 (min (if i<0 then i+(n:Int)else i) (n:Int))else max (-1) (min (if i<0 then i+(n:Int)else i) ((n:Int) - 1)))=((HT.sIx n n hi:Nat):Int):=by
  cases hi with
  |none=>simp[HT.sIx]
  |some i=>
   simp only[HT.sIx,show(1:Int)>0 by decide,if_true];by_cases h:i<0
   .simp only[h,if_true];lia
   .simp only[h,iF];lia
 rw[<-sliceRange_one];unfold Builtin.Str.strSliceIndices;rw[<-a, <-b];cases lo<;>cases hi<;>rfl
theorem Ij(x)(lo hi):Txt.slice (yZ x) lo hi=yZ (cU x lo hi):=by
 unfold Txt.slice;rw[strIdx,wD];have b:=by have:=pick_run (yZ x).cps (HT.sIx x.length 0 lo) (HT.sIx x.length x.length hi - HT.sIx x.length 0 lo);exact this
 rw[b];split
 .rename_i a;rw[aE]at a;have d:=by simpa using a.2
  have h:HT.sIx x.length x.length hi<=x.length:=HT.sIx_le _ _ (à _) _;have f:HT.sIx x.length 0 lo<=x.length:=HT.sIx_le _ _ (zero_le _) _;have e:HT.sIx x.length 0 lo=0:=by lia
  unfold cU;rw[d,e];simp
 .rfl
section
variable{X:Cx}
def rSlS:V->Option Int->Option Int->Hp->VK->Prop:=λx lo hi H Q=> ∃a,x=.str (yZ a)/\a.length<=sizeLine/\Q (.str (yZ (cU a lo hi))) H
def Zj:SlR X rSlS:=by
 intro pins s σ H x v y A lo hi z Q I n hs r m h;obtain⟨p,rfl,w,q⟩:=h;obtain⟨t,rfl⟩:=n;have b:(Txt.slice (yZ p) lo hi).length<=sizeLine:=ç (Txt.slice_le _ _ _) (by rw[wD];exact w);rw[<-Ij]at q;refine⟨"str",_,slot_str_getitem.lookup,typeIs_str _ _ _,?_⟩;obtain⟨o,d,a,e⟩:=hs
 cases r with
 |none=>
  cases m with
  |none=>exact į (l:=none) (u:=none) (st:=none) ⟨o,d,a,e⟩ rfl (post_val_or_str ⟨b,λf k=>⟨.str _,H,I.tok _,⟨_,rfl⟩,q⟩⟩)
  |int j uj=>exact į (l:=none) (u:=some (j,uj)) (st:=none) ⟨o,d,a,e⟩ rfl (post_val_or_str ⟨b,λf k=>⟨.str _,H,I.tok _,⟨_,rfl⟩,q⟩⟩)
 |int i ui=>
  cases m with
  |none=>exact į (l:=some (i,ui)) (u:=none) (st:=none) ⟨o,d,a,e⟩ rfl (post_val_or_str ⟨b,λf k=>⟨.str _,H,I.tok _,⟨_,rfl⟩,q⟩⟩)
  |int j uj=>exact į (l:=some (i,ui)) (u:=some (j,uj)) (st:=none) ⟨o,d,a,e⟩ rfl (post_val_or_str ⟨b,λf k=>⟨.str _,H,I.tok _,⟨_,rfl⟩,q⟩⟩)
def pA:OpR X (compareOp .LtE) (λx y H Q=> ∃i j,x=.str i/\y=.str j/\Q (.bl (!(j.cps.toList<i.cps.toList))) H):=by intro pins s σ H x y v u Q I b a h;obtain⟨i,j,rfl,rfl,q⟩:=h;obtain⟨t,rfl⟩:=b;obtain⟨d,rfl⟩:=a;exact PySem.P.le_str ⟨.bl _,H,I,rfl,q⟩
noncomputable def QP(a:Db)(k:Int):List Nat:=(List.replicate k.toNat a).flatten
theorem JD(cs): ∀ k (a:Db),List.foldl (λb d=>b++d) a.toArray (List.replicate k cs.toArray)=(a++(List.replicate k cs).flatten).toArray
 |0,a=>by simp
 |k+1,a=>by rw[ě,ě,flatten_cons, <-aA, <-JD cs k _];simp
theorem Bs:OpR X (binaryOp .Mult) (λx y H Q=> ∃a k,x=.str (yZ a)/\y=.int k/\0<=k/\k<1000/\a.length<=1000/\Q (.str (yZ (QP a k))) H):=by
 intro pins s σ H x y v u Q I C r h;obtain⟨a,k,rfl,rfl,E,G,A,q⟩:=h;obtain⟨t,rfl⟩:=C;obtain⟨F,rfl⟩:=r;have hs:=ý;have m:a.length * k.toNat<=1000 * 1000:=Nat.mul_le_mul A #[0];have e: ∀b,Q (.str b) H->b=yZ (QP a k)->True:=λ_ _ _=>trivial;refine PySem.P.mul_str (by rw[dF0 #[0],dF0 #[0]];rfl) (λJ _=>?_) (λ_ _=>?_) ?_
 .rw[wD];have o:1<=k:=by lia
  have:(1000:Int)<=(2 ^ 63 - 1) / k:=by
   rw[Int.le_ediv_iff_mul_le #[0]]
   lia
  lia
 .rw[wD];unfold PySem.Builtin.Str.tooLong;exact dF0 #[0]
 .have f: ∀(z:Str),z=yZ _->z.length<=sizeLine->(Made.str z).post (EP X pins σ Q) s:=λz D B=>⟨B,by rw[D];exact⟨.str _,H,I.tok _,⟨_,rfl⟩,q⟩⟩
  have i:(QP a k).length=k.toNat * a.length:=by unfold QP;rw[len_rep]
  by_cases p:k<1
  .rw[iP p];have o:k.toNat=0:=by lia
   refine f _ ?_ ↑4;unfold QP;rw[o];rfl
  .rw[iN0 p];by_cases d:(k==1 || (yZ a).length==0)=true
   .rw[iP d];refine⟨.str _,H,I,⟨_,rfl⟩,?_⟩
    have:QP a k=a:=by
     unfold QP;rw[Bool.or_eq_true]at d;rcases d with d|d
     .have:k=1:=by simpa using d
      subst this;simp
     .rw[wD]at d;have:a=[]:=by cases a with |nil=>rfl|cons _ _=>simp at d
      subst this;simp
    rw[this]at q;exact q
   .rw[iN0 d];refine f _ ?_ ?_
    .unfold QP yZ;have:=JD a k.toNat [];rw[Ġ]at this;exact congrArg Str.mk this
    .have w:(List.foldl (λj n=>j++n) #[] (List.replicate k.toNat (yZ a).cps))=(QP a k).toArray:=by have:=JD a k.toNat [];rw[Ġ]at this;exact this
     show(List.foldl (λj n=>j++n) #[] _).size<=sizeLine;rw[w,sA,i,Nat.mul_comm]
     lia
def nO:CallR X (.builtin "all") (λxs H Q=> ∃(a:Addr)(bs:M0),xs=[.ref a]/\SqL X.K H a (bs.map V.bl)/\X.calm=true/\Q (.bl (bs.all id)) H):=by
 intro pins s σ H xs L Q I r h;obtain⟨a,bs,rfl,D,A,q⟩:=h;obtain⟨u,rfl,E⟩:=vals1 r;cases E;obtain⟨m,z,y,N⟩:=I.list D;have d:m.length=bs.length:=by rw[<-z.length,lM0]
 refine PySem.call_all_walk (wpAny_pyIter_list y.isList ?_);have G:a≠s.heap.objs.size:=by obtain⟨o,J,_⟩:=y.isList;exact é (ã J)
 have I1: ∀(h':Heap)(p:Nat),(∀b o,b∉[↑0]->(s.heap.push {cls:=.type "list_iterator",data:=.fields #[.ref a,.int 0 0]}).get? b=some o->h'.get? b=some o)->Inv X pins σ H {s with heap:=h',toks:=p}:=λh' p k=>
  I.kept λb o e=>k b o (by simpa using é (ã e)) (hP0 _ e)
 refine⟨_,_,_,_,_,_,λi=>bs.getD i false,rfl,PySem.Walks.list (by first |exact I.ok.hd A|exact(I.ok.hd A)) _ a G m.toArray,⟨⟨_,ä _ rfl,rfl,rfl⟩,y.isList.at λo e=>hP0 _ e⟩,?_,λh' p k=>?_⟩
 .intro i v M S O C t;have n:=by simpa using C
  have hi:i<bs.length:=by rw[<-d];exact(gS.mp n).1
  have F:(bs.map V.bl)[i]? =some (V.bl (bs.getD i false)):=by simp[Ė,hi]
  obtain⟨P,f,w⟩:=z.get F;rw[n]at f;cases f;cases w;exact Ć t
 .refine⟨_,H,I1 h' p k,?_,q⟩;congr 1;rw[sA,d]
  have: ∀(l:M0),(List.range l.length).all (λi=>l.getD i false)=l.all id:=by
   intro l;rw[Bool.eq_iff_iff,ì,ì];constructor
   .intro h x B;obtain⟨i,hi,rfl⟩:=List.getElem_of_mem B;have:=h i (mem_range.mpr hi);simpa [Ė,hi]using this
   .intro h i hi;have j:=mem_range.mp hi;have:=h l[i] (getElem_mem j);simpa [Ė,j]using this
  exact this bs
def U7(x:Db):It:=⟨λi _=>i<x.length,λi H v H'=>H'=H/\ ∃c,x[i]? =some c/\v=.str (yZ [c]),λi _=>x.length<=i⟩
def iStr(b:TE):TI:=λσ H R=>b σ H λv a=> ∃x,v=.str (yZ x)/\R (U7 x) a
def YC{K:P0}(it)(ty)(x)(t)(hty:ty="str_ascii_iterator"\/ty="str_iterator"):
  Turn P w K tg (U7 x) [it] it (λi h=>h.IsStrIter it ty (yZ x) t i) where
 mem:=by simp
 obj:=λi h st b hb=>by
  have e:b=it:=by simpa using hb
  subst e;obtain⟨o,e,c,d⟩:=st;exact⟨o,e,λv z=>by rw[d]at z;cases z⟩
 keep:=λi h h' st k=>let ⟨o,ho,r⟩:=st;⟨o,k it (by simp) o ho,r⟩
 item:=by
  intro X hP hw hK hc i pins s σ H E I hf st hg;subst hP hw hK;obtain⟨f0,f1,f2,f3,f4,f5⟩:=hf it (by simp);have hi:i<x.length:=hg;have hxi:(yZ x).cps[i]? =some x[i]:=by simp[yZ,hi]
  have fin: ∀(h':Heap),h'.IsStrIter it ty (yZ x) t (i+1)->Heap.SameBut it s.heap h'-> ∃u,some (Value.str ⟨#[x[i]]⟩ s.toks)=some u/\
    wpAny ↑6 X.A (letOwnedTupleGo tg (.ref it) u) (λ_ s2=> ∃y H',Inv X pins σ H' s2/\RelV y u/\(U7 x).yld i H y H'/\s2.heap.IsStrIter it ty (yZ x) t (i+1)/\ ∀b∈[it],H' b=none) E {s with heap:=h',toks:=s.toks+1}:=λh' st' sb=>by
   have I1:Inv X pins σ H {s with heap:=h',toks:=s.toks+1}:=I.turned (λb o hb e=>(sb.2 b hb).trans e) f0 f1 f3 f4 f5;obtain⟨o,e,c,d⟩:=id st';refine⟨_,rfl,Ee (s:={s with heap:=h',toks:=s.toks+1}) e c d (by rcases hty with rfl|rfl<;>decide) ⟨.str (yZ [x[i]]),H,I1,⟨_,rfl⟩,⟨rfl,x[i],by simp[hi],rfl⟩,st',λb hb=>(hf b hb).1⟩⟩
  rcases hty with rfl|rfl
  .exact wpAny_pyNext_ascii_item st hxi λh' st' sb=>fin h' st' sb
  .exact wpAny_pyNext_wide_item st hxi λh' st' sb=>fin h' st' sb
 done:=by
  intro X hP hw hK hc i pins s σ H E I hf st hg;subst hP hw hK;obtain⟨f0,f1,f2,f3,f4,f5⟩:=hf it (by simp);have hi:x.length<=i:=hg;have hxi:(yZ x).cps[i]? =none:=by simp[yZ,hi]
  rcases hty with rfl|rfl
  .exact wpAny_pyNext_ascii_end (I.ok.hd hc) st hxi λh' eb=>⟨rfl,I.turned (t':=s.toks) (λb o hb e=>eb b o hb e) f0 f1 f3 f4 f5⟩
  .exact wpAny_pyNext_wide_end (I.ok.hd hc) st hxi λh' eb=>⟨rfl,I.turned (t':=s.toks) (λb o hb e=>eb b o hb e) f0 f1 f3 f4 f5⟩
 self:=λ_ _ _ _ _ st h=>by
  rcases hty with rfl|rfl
  .exact wpAny_pyIter_striter_ascii st h
  .exact wpAny_pyIter_striter_wide st h
def Zk(m:PE X l tl):PI X tg l (iStr tl):=by
 intro pins s σ H R I h;refine kL (m pins s σ H _ I h) λv s1 ⟨x,d,I1,k,j⟩=>?_;obtain⟨a,e,q⟩:=j;subst e;obtain⟨t,rfl⟩:=k
 have fp: ∀(o:Obj), ∀b∈[s1.heap.objs.size],pE X pins d b:=λo b i=>by
  have e:b=s1.heap.objs.size:=by simpa using i
  subst e;exact I1.fpOk (à _) (I1.hok.fresh (à _))
 cases f:(yZ a).cps.all (· <128)
 .refine wpAny_pyIter_wide f ?_;exact⟨s1.heap.objs.size,[s1.heap.objs.size],_,_,d,rfl,I1.kept (t':=s1.toks) λb o e=>hP0 _ e,YC _ "str_iterator" a t (.inr rfl),⟨_,ä _ rfl,rfl,rfl⟩,fp default,q⟩
 .refine wpAny_pyIter_ascii f ?_;exact⟨s1.heap.objs.size,[s1.heap.objs.size],_,_,d,rfl,I1.kept (t':=s1.toks) λb o e=>hP0 _ e,YC _ "str_ascii_iterator" a t (.inl rfl),⟨_,ä _ rfl,rfl,rfl⟩,fp default,q⟩
end
section
def PU(X:Cx)(e:Expr)(t:TE):Prop:= ∀(i:Nat)(x:Str)(a pos:Pos),X.N.Nodup->X.N[i]? =some x->Loc X.env.scope x->(X.fn x=true\/X.env.scope.names.lookup x=some .local)->
 swapsWith e (some (.Name x a)) pos.line X.env=pure true->PS X (.Assign [.Name x a] e pos) (Yn t (Ks i))
def Se(T)(idx)
  (hi:Qz C X tg iter wi) (hCx: ∀c d w fp pins σ,Inv X pins σ w d->C (zS X sc T idx c d w fp)) (hB:rE X.env.scope X.N sc idx=true)
  (hg: ∀C d j fp,PG (zS X sc T idx C d j fp) tg g)
  (hc: ∀C d j fp,UQ (zS X sc T idx C d j fp) ifs (tc C d j fp))
  (he: ∀C d j fp,PE (zS X sc T idx C d j fp) elt (te C d j fp))
  (hs: ∀x,foldedSetIterable iter X.env x=pure x:=by intro _;rfl):
  PU X (.ListComp elt [⟨tg,iter,ifs,0⟩] sc pos) (RY wi g tc te T.length idx):=by
 intro i x z y P t F B u pins s σ H D I h;rw[exec_Assign_Name_used _ _ _ _ u];refine wB (ē (wB ?_));refine wB (kL (YB T idx hi hCx hB hg hc he hs I h λL C G H' _ A f r q=>?_) λ_ E J=>wP (wP J));have K:=A G.heap (Heap.SameBut.refl _ _);refine wpAny_assign_Name (IZ K P t F (show RelV (.ref L) _ from rfl) (λE M ⟨a,v,n⟩=>?_) B);obtain⟨m,r⟩:=r
 have p:C≠a:=by
  rintro rfl;rcases n with n|n
  .exact f.2.1 n
  .exact f.2.2.2.2.1 x _ n rfl
 refine⟨m,r.sameBut v p,λh' k=>⟨_,H',?_,q⟩⟩;exact M.turned (λb o O e=>(k.2 b O).trans e) f.1 f.2.1 f.2.2.2.1 f.2.2.2.2.1 f.2.2.2.2.2
end
end L2
namespace L2
namespace M
open PySem PySem.Spec PyProof.Rows
def Lp(h:RelV y u)(e:RelV x v)(i:uI y=true)(f:uI x=true):SeqAt.RcAt A s u v (Rz y x)/\SeqAt.RcNeAt A s u v (!Rz y x):=by
 cases y with
 |non=>
  cases h
  cases x with
  |non=>cases e;exact⟨.none_none,.none_none⟩
  |bl b=>cases e;exact⟨.none_bool b,.none_bool b⟩
  |int b=>obtain⟨t,rfl⟩:=e;exact⟨.none_int b t,.none_int b t⟩
  |str b=>obtain⟨t,rfl⟩:=e;exact⟨.none_str b t,.none_str b t⟩
  |_=>cases f
 |bl a=>
  cases h
  cases x with
  |non=>cases e;exact⟨.bool_none a,.bool_none a⟩
  |bl b=>cases e;exact⟨.bool_bool a b,.bool_bool a b⟩
  |int b=>obtain⟨t,rfl⟩:=e;exact⟨.bool_int a b t,.bool_int a b t⟩
  |str b=>obtain⟨t,rfl⟩:=e;exact⟨.bool_str a b t,.bool_str a b t⟩
  |_=>cases f
 |int a=>
  obtain⟨d,rfl⟩:=h
  cases x with
  |non=>cases e;exact⟨.int_none a d,.int_none a d⟩
  |bl b=>cases e;exact⟨.int_bool a d b,.int_bool a d b⟩
  |int b=>obtain⟨t,rfl⟩:=e;exact⟨.int_int a d b t,.int_int a d b t⟩
  |str b=>obtain⟨t,rfl⟩:=e;exact⟨.int_str a d b t,.int_str a d b t⟩
  |_=>cases f
 |str a=>
  obtain⟨d,rfl⟩:=h
  cases x with
  |non=>cases e;exact⟨.str_none a d,.str_none a d⟩
  |bl b=>cases e;exact⟨.str_bool a d b,.str_bool a d b⟩
  |int b=>obtain⟨t,rfl⟩:=e;exact⟨.str_int a d b t,.str_int a d b t⟩
  |str b=>obtain⟨t,rfl⟩:=e;exact⟨.str_str a d b t,.str_str a d b t⟩
  |_=>cases f
 |_=>cases i
abbrev Six(A:Around)(s:Shared)(u v:Value):Prop:=SeqAt.EqAt A s u v false/\SeqAt.EqAt A s v u false/\SeqAt.RcAt A s u v false/\SeqAt.RcAt A s v u false/\SeqAt.RcNeAt A s u v true/\SeqAt.RcNeAt A s v u true
def SD(e:RelV x v)(f:uI x=true)(d:s.heap.IsList l items)(a:A.units<cLine):Six A s (.ref l) v:=by
 cases x with
 |non=>cases e;exact⟨.list_none d a,.none_list d a,.list_none d a,.none_list d a,.list_none d a,.none_list d a⟩
 |bl b=>cases e;exact⟨.list_bool b d a,.bool_list b d a,.list_bool b d a,.bool_list b d a,.list_bool b d a,.bool_list b d a⟩
 |int b=>obtain⟨t,rfl⟩:=e;exact⟨.list_int b t d a,.int_list b t d a,.list_int b t d a,.int_list b t d a,.list_int b t d a,.int_list b t d a⟩
 |str b=>obtain⟨t,rfl⟩:=e;exact⟨.list_str b t d a,.str_list b t d a,.list_str b t d a,.str_list b t d a,.list_str b t d a,.str_list b t d a⟩
 |_=>cases f
def LF(e:RelV x v)(f:uI x=true)(d:s.heap.IsTuple l items)(a:A.units<cLine):Six A s (.ref l) v:=by
 cases x with
 |non=>cases e;exact⟨.tuple_none d a,.none_tuple d a,.tuple_none d a,.none_tuple d a,.tuple_none d a,.none_tuple d a⟩
 |bl b=>cases e;exact⟨.tuple_bool b d a,.bool_tuple b d a,.tuple_bool b d a,.bool_tuple b d a,.tuple_bool b d a,.bool_tuple b d a⟩
 |int b=>obtain⟨t,rfl⟩:=e;exact⟨.tuple_int b t d a,.int_tuple b t d a,.tuple_int b t d a,.int_tuple b t d a,.tuple_int b t d a,.int_tuple b t d a⟩
 |str b=>obtain⟨t,rfl⟩:=e;exact⟨.tuple_str b t d a,.str_tuple b t d a,.tuple_str b t d a,.str_tuple b t d a,.tuple_str b t d a,.str_tuple b t d a⟩
 |_=>cases f
def Lq(h:uI y=true):Rz y y=true:=by cases y<;>first |rfl|(simp[Rz];done)|exact absurd h xF0
abbrev K3:=Option Key
inductive NK where
 |key (k:K3)|tup (ks:List NK)
instance:DecidableEq NK:=λ_ _=>Classical.propDecidable _
section
variable(knd:KeyKind prog w K3)
mutual
def SE(h:Heap):NK->ĵ->Prop
 |.key k,v=>knd.is k v=true
 |.tup ks,v=> ∃a o b n,v=.ref a/\h.get? a=some o/\o.cls=.type "tuple"/\o.data=.seq b n/\FE h ks b.toList
def FE(h:Heap):List NK->List ĵ->Prop
 |[],vs=>vs=[]
 |k::ks,vs=> ∃v r,vs=v::r/\SE h k v/\FE h ks r
end
mutual
def HM:NK->Int
 |.key k=>knd.hash k
 |.tup ks=>reduceHash (Builtin.Tuple.tupleHashOf (NY ks))
def NY:List NK->List Int
 |[]=>[]
 |k::ks=>HM k::NY ks
end
mutual
def NZ:NK->Nat
 |.key _=>1
 |.tup ks=>eS ks+1
def eS:List NK->Nat
 |[]=>0
 |k::ks=>NZ k+eS ks
end
mutual
def MB:NK->Nat
 |.key _=>0
 |.tup ks=>LG ks+1
def LG:List NK->Nat
 |[]=>0
 |k::ks=>max (MB k) (LG ks)
end
variable{knd}
theorem dC:SE knd h (.key k) v↔knd.is k v=true:=by unfold SE;exact Iff.rfl
def jZ:SE knd h (.tup ks) v↔ ∃a o b n,v=.ref a/\h.get? a=some o/\o.cls=.type "tuple"/\o.data=.seq b n/\FE knd h ks b.toList:=by
 conv=>lhs;unfold SE
theorem bB:FE knd h [] vs↔vs=[]:=by unfold FE;exact Iff.rfl
def wM:FE knd h (k::ks) vs↔ ∃v r,vs=v::r/\SE knd h k v/\FE knd h ks r:=by
 conv=>lhs;unfold FE
mutual
theorem US{h:Heap}: ∀{x y:NK}{v:ĵ},SE knd h x v->SE knd h y v->x=y
 |.key k,.key k',v,hx,hy=>by rw[knd.inj v k k' (dC.mp hx) (dC.mp hy)]
 |.key k,.tup ks,v,hx,hy=>by obtain⟨a,o,b,n,rfl,_⟩:=jZ.mp hy;have:=knd.byValue _ _ (dC.mp hx);simp[carriedByValue]at this
 |.tup ks,.key k,v,hx,hy=>by obtain⟨a,o,b,n,rfl,_⟩:=jZ.mp hx;have:=knd.byValue _ _ (dC.mp hy);simp[carriedByValue]at this
 |.tup ks,.tup ks',v,hx,hy=>by
  obtain⟨a,o,b,n,e,r,_,q,hi⟩:=jZ.mp hx;obtain⟨t,p,f,s,m,j,_,d,i⟩:=jZ.mp hy;rw[e]at m;cases m;obtain rfl:o=p:=å (r.symm.trans j);rw[q]at d;injection d with h1 _
  subst h1;rw[YD hi i]
theorem YD{h:Heap}: ∀{xs b:List NK}{a:A0},FE knd h xs a->FE knd h b a->xs=b
 |[],[],_,_,_=>rfl
 |[],y::b,a,hx,hy=>by obtain⟨v,r,e,_⟩:=wM.mp hy;rw[bB.mp hx]at e;cases e
 |x::xs,[],a,hx,hy=>by obtain⟨v,r,e,_⟩:=wM.mp hx;rw[bB.mp hy]at e;cases e
 |x::xs,y::b,a,hx,hy=>by obtain⟨v,r,e,j,k⟩:=wM.mp hx;obtain⟨m,n,i,d,f⟩:=wM.mp hy;rw[e]at i;cases i;rw[US j d,YD k f]
end
mutual
theorem YE{h h':Heap}(m: ∀a o b n,h.get? a=some o->o.data=.seq b n->h'.get? a=some o): ∀{x:NK}{v:ĵ},SE knd h x v->SE knd h' x v
 |.key k,v,hx=>dC.mpr (dC.mp hx)
 |.tup ks,v,hx=>by obtain⟨a,o,b,n,e,i,f,d,hi⟩:=jZ.mp hx;exact jZ.mpr ⟨a,o,b,n,e,m a o b n i d,f,d,SH m hi⟩
theorem SH{h h':Heap}(m: ∀a o b n,h.get? a=some o->o.data=.seq b n->h'.get? a=some o): ∀{xs:List NK}{d:A0},FE knd h xs d->FE knd h' xs d
 |[],d,hx=>bB.mpr (bB.mp hx)
 |x::xs,d,hx=>by obtain⟨v,r,e,f,i⟩:=wM.mp hx;exact wM.mpr ⟨v,r,e,YE m f,SH m i⟩
end
theorem OA: ∀a:List NK,NY knd a=a.map (HM knd)
 |[]=>by unfold NY;rfl
 |k::a=>by unfold NY;rw[OA a];rfl
def GC:eS []=0:=by rw[eS]
def BR(k)(ks):eS (k::ks)=NZ k+eS ks:=by rw[eS]
def OB(k)(ks):LG (k::ks)=max (MB k) (LG ks):=by rw[LG]
def uK(ks):MB (.tup ks)=LG ks+1:=by rw[MB]
theorem FI: ∀ xs a ,eS (xs++a)=eS xs+eS a
 |[],a=>by rw[GC,Ġ,Nat.zero_add]
 |x::xs,a=>by rw[List.cons_append,BR,BR,FI xs a];lia
def HN{s:Ĵ}(h:SE knd s.heap (.tup ks) (.ref a)):s.TypeIs (.ref a) "tuple":=by obtain⟨f,o,_,n,e,d,b,_⟩:=jZ.mp h;cases e;exact⟨o,d,b⟩
theorem YF: ∀ n {A}{E}{s}{k}{v}{Q},MB k<=n->A.units+n<cLine->SE knd s.heap k v->Q (HM knd k) {s with toks:=s.toks+NZ k}->wpAny (model prog w) A (pyHash v) Q E s
 |n,A,E,s,.key k,v,Q,_,_,i,h=>knd.pyHash (dC.mp i) (by rw[HM,NZ]at h;exact h)
 |0,A,E,s,.tup f,v,Q,u,_,_,_=>by rw[uK]at u;lia
 |n+1,A,E,s,.tup f,v,Q,hdep,hu,i,h=>by
  obtain⟨a,o,_,m,rfl,C,G,u,hi⟩:=jZ.mp i;have q:s.TypeIs (.ref a) "tuple":=⟨o,C,G⟩
  rw[uK]at hdep
  have z: ∀k∈f,MB k<=n:=by
   have: ∀f:List NK,LG f<=n-> ∀k∈f,MB k<=n:=by
    intro f
    induction f with
    |nil=>intro _ k i;simp at i
    |cons x xs ih=>
     intro H k i;rw[OB]at H;rcases mC.mp i with rfl|i
     .lia
     .exact ih #[0] k i
   exact this f #[0]
  rw[HM,NZ,OA]at h;unfold pyHash
  first |unfold pyHashByItsType|skip
  first |refine wB (wpAny_cRoomFor_or (.inr #[0]) ?_)|skip
  refine wB (wpAny_specialOf q F.slot_tuple_hash.lookup ?_);show wpAny _ _ _ Q E s;rw[iN0 (by rw[beq_builtin_none];exact xF0)];refine wB (wpAny_specialOf q F.slot_tuple_hash.lookup ?_);show wpAny _ _ _ Q E s;refine wB (wpAny_callSpecialIfBoundUnlessNone?_slot q F.slot_tuple_hash (ą F.slot_tuple_hash q F.entry_tuple_hash ?_ (F.args_tuple_hash_1 _)));show wpAny _ _ (Builtin.Tuple.tupleItemsOf (.ref a) >>= _) _ _ s;refine wB (wpAny_tupleItemsOf C u ?_);refine wB ?_;rw[<-Array.forIn_toList]
  refine wpAny_forIn_list _
   (λrest (b:Array Int) t=> ∃d left,f=d++left/\FE knd s.heap left rest/\b.toList=d.map (HM knd)/\t={s with toks:=s.toks+eS d})
   _ ?_ ?_ _ _ ⟨[],f,rfl,hi,rfl,by rw[GC];rfl⟩
  .rintro x rest b t ⟨d,left,rfl,j,B,rfl⟩
   cases left with
   |nil=>rw[bB]at j;cases j
   |cons k ks'=>
    obtain⟨v,r,e,I,y⟩:=wM.mp j;cases e;refine wB (YF n (z k (by simp)) #[0] I ?_);have D:eS (d++[k])=eS d+NZ k:=by rw[FI,BR,GC];rfl
    first
     |exact wP ⟨d++[k],ks',by simp,y,by simp[B],by simp[add_assoc,D]⟩
     |exact wB _
  .rintro b t ⟨d,left,rfl,j,B,rfl⟩
   cases left with
   |cons k ks'=>obtain⟨v,r,e,_⟩:=wM.mp j;cases e
   |nil=>
    rw[aN]at h;show wpAny _ _ (retInt _) _ _ _;rw[B];refine wpAny_ret_mkInt ?_;show wpAny _ _ (if _=true then _ else _) Q E _;unfold reduceHash at h;by_cases p:(decide (-(2:Int) ^ 63<=Builtin.Tuple.tupleHashOf (d.map (HM knd)))&&decide (Builtin.Tuple.tupleHashOf (d.map (HM knd))<2 ^ 63))=true
    .rw[iP p];rw[iP p]at h;exact wP (by simpa [add_assoc]using h)
    .rw[iN0 p];rw[iN0 p]at h;exact wB (wpAny_rule (wP (by simpa [add_assoc]using h)))
end
section
def Ik(h:Q 0xFCA86420 {s with toks:=s.toks+1}):wpAny (model prog w) A (pyHash .none) Q E s:=by
 refine wB ?_;rw[cRoomFor];refine wP ?_;refine wB (wpAny_specialOf (typeIs_none s) F.slot_NoneType_hash.lookup ?_);refine wB (wpAny_specialOf (typeIs_none s) F.slot_NoneType_hash.lookup ?_)
 refine wB (wpAny_callSpecialIfBoundUnlessNone?_slot (typeIs_none s) F.slot_NoneType_hash
  (ą F.slot_NoneType_hash (typeIs_none s) F.entry_NoneType_hash
   (wpAny_ret_mkInt ?_) (F.args_NoneType_hash_1 _)))
 show wpAny _ _ _ Q E _;exact wP h
def U8:K3->ĵ->Bool
 |some k,v=>HG k v
 |none,v=>v==.none
def uL: ∀{k}{v},U8 k v=true->(∃i t,k=some (.inl i)/\v=Value.int i t)\/(∃x t,k=some (.inr x)/\v=Value.str x t)\/(k=none/\v=.none)
 |some k,v,h=>by
  rcases xK h with⟨i,t,rfl,e⟩|⟨x,t,rfl,e⟩
  .exact .inl ⟨i,t,rfl,e⟩
  .exact .inr (.inl ⟨x,t,rfl,e⟩)
 |none,v,h=>.inr (.inr ⟨rfl,eq_of_beq h⟩)
def mk(prog)(w):KeyKind prog w K3 where
 is:=U8
 hash:=λ|some k=>P6 w k|none=>0xFCA86420
 inj:=λv a b ha hb=>by rcases uL ha with⟨i,t,rfl,rfl⟩|⟨x,t,rfl,rfl⟩|⟨rfl,rfl⟩<;>rcases uL hb with⟨j,u,rfl,e⟩|⟨y,u,rfl,e⟩|⟨rfl,e⟩<;>first |(injection e with e1 _;rw[e1];done)|rfl|exact nomatch e
 byValue:=λk v h=>by rcases uL h with⟨i,t,rfl,rfl⟩|⟨x,t,rfl,rfl⟩|⟨rfl,rfl⟩<;>rfl
 pyHash:=λhv h=>by
  rcases uL hv with⟨i,t,rfl,rfl⟩|⟨x,t,rfl,rfl⟩|⟨rfl,rfl⟩
  .exact wpAny_pyHash_int h
  .exact wpAny_pyHash_str h
  .exact Ik h
 eqBool:=λ{A} {E} {s} {a} {b} {u} {v} {Q} hu hv h=>by
  cases a with
  |some a=>
   cases b with
   |some b=>exact(dB prog w).eqBool hu hv (by rw[show decide (some a=some b)=decide (a=b)from by simp]at h;exact h)
   |none=>
    cases eq_of_beq hv;rw[show decide (some a=none)=false from dF0 λz=>nomatch z]at h;rcases xK (show HG a u=true from hu)with⟨i,t,rfl,rfl⟩|⟨x,t,rfl,rfl⟩
    .exact SeqAt.EqAt.int_none i t _ _ _ _ h
    .exact SeqAt.EqAt.str_none x t _ _ _ _ h
  |none=>
   cases eq_of_beq hu
   cases b with
   |some b=>
    rw[show decide (none=some b)=false from dF0 λz=>nomatch z]at h;rcases xK (show HG b v=true from hv)with⟨i,t,rfl,rfl⟩|⟨x,t,rfl,rfl⟩
    .exact SeqAt.EqAt.none_int i t _ _ _ _ h
    .exact SeqAt.EqAt.none_str x t _ _ _ _ h
   |none=>
    cases eq_of_beq hv;rw[show decide ((none:K3)=none)=true from dT0 rfl]at h;exact SeqAt.EqAt.same _ _ _ _ _ h
 «strs»:=λk x t v h=>by
  rcases uL h with⟨i,u,rfl,e⟩|⟨y,u,rfl,e⟩|⟨rfl,e⟩
  .exact nomatch e
  .injection e with e1 _
   subst e1;cases v<;>rfl
  .exact nomatch e
def Sf(a b):decide (NK.key a=NK.key b)=decide (a=b):=by
 by_cases h:a=b
 .subst h;simp
 .rw[dF0 h,dF0 λz=>h (NK.key.inj z)]
def Zl(a)(b):decide (NK.key a=NK.tup b)=false:=dF0 λz=>nomatch z
def Zm(a)(b):decide (NK.tup b=NK.key a)=false:=dF0 λz=>nomatch z
def Zn(a b):decide (NK.tup a=NK.tup b)=decide (a=b):=by
 by_cases h:a=b
 .subst h;simp
 .rw[dF0 h,dF0 λz=>h (NK.tup.inj z)]
def YG(h:(mk prog w).is k v=true): ∃x:V,RelV x v/\uI x=true:=by
 rcases uL h with⟨i,t,rfl,rfl⟩|⟨x,t,rfl,rfl⟩|⟨rfl,rfl⟩
 .exact⟨.int i,⟨t,rfl⟩,rfl⟩
 .exact⟨.str x,⟨t,rfl⟩,rfl⟩
 .exact⟨.non,rfl,rfl⟩
def Il
  (he: ∀C∈x, ∀F u v  Q ,SE (mk prog w) s.heap C u->SE (mk prog w) s.heap F v->Q (decide (C=F)) s->wpAny (model prog w) A (eqBool u v) Q E s)
  (hx:SE (mk prog w) s.heap (.tup x) (.ref a)) (hy:SE (mk prog w) s.heap (.tup y) (.ref b)) (h:P (.done (.ret (.bool (decide (x=y))))) s):
  wpAny (model prog w) A (Builtin.«tuple.__eq__» ⟨[.ref a,.ref b],[]⟩) P E s:=by
 have O:=HN hy;obtain⟨_,oa,xs,na,e,W,_,N,T⟩:=jZ.mp hx;cases e;obtain⟨_,ob,Y,nb,e,L,_,X,U⟩:=jZ.mp hy;cases e;show wpAny _ _ (isInstance _ _ >>= _) _ _ s;refine wB (wpAny_isInstance O isSubtype_tuple_tuple ?_);refine wB (wpAny_tupleItemsOf W N ?_);refine wB (wpAny_tupleItemsOf L X ?_);refine wB ?_
 refine wpAny_forIn_list _
  (λrest r J=>r.1=none/\J=s/\ ∃D G n m,rest=List.zip n m/\(∀k∈D,k∈x)/\FE _ s.heap D n/\FE _ s.heap G m/\decide (D=G)=decide _/\(n.length==m.length)=(xs.size==Y.size))
  _ ?_ ?_ _ _ ⟨rfl,rfl,x,y,_,_,rfl,λk B=>B,T,U,rfl,by simp⟩
 .rintro⟨u,v⟩ rest r J ⟨M,rfl,D,G,n,m,t,K,o,d,f,i⟩
  cases D with
  |nil=>rw[bB.mp o]at t;simp at t
  |cons C x''=>
   cases G with
   |nil=>rw[bB.mp d]at t;simp at t
   |cons F y''=>
    obtain⟨u',z,rfl,h1,q⟩:=wM.mp o;obtain⟨Z,j,rfl,S,p⟩:=wM.mp d;simp only[zip_cons_cons,List.cons.injEq,Prod.mk.injEq]at t;obtain⟨⟨rfl,rfl⟩,rfl⟩:=t;refine wB (he C (K C mF0) F _ _ _ h1 S ?_);by_cases B:C=F
    .subst B;rw[dT0 rfl];simp only[ø,fT,iF];refine wP ⟨rfl,rfl,x'',y'',z,j,rfl,λk B=>K k (mO _ B),q,p,?_,by simpa using i⟩;rw[<-f];by_cases I:x''=y''
     .simp[I]
     .simp[I]
    .rw[dF0 B];simp only[Ă,if_true];have hf:decide (x=y)=false:=by rw[<-f];simp[B]
     rw[hf]at h;exact wB (wP (wP (wP h)))
 .rintro⟨r1,r2⟩ J ⟨M,rfl,D,G,n,m,t,K,o,d,f,i⟩;simp only at M;subst M;refine wP ?_
  have H:(xs.size==Y.size)=decide (x=y):=by
   rw[<-f, <-i]
   cases D with
   |nil=>
    rw[bB.mp o]
    cases G with
    |nil=>rw[bB.mp d];simp
    |cons F y''=>obtain⟨Z,j,rfl,S,p⟩:=wM.mp d;simp
   |cons C x''=>
    obtain⟨u',z,rfl,h1,q⟩:=wM.mp o
    cases G with
    |nil=>rw[bB.mp d];simp
    |cons F y''=>obtain⟨Z,j,rfl,S,p⟩:=wM.mp d;simp at t
  show P (.done (.ret (.bool _))) J;rw[H];exact h
theorem OD: ∀{a},LG a<=n-> ∀k∈a,MB k<=n
 |[],_,k,hk=>by simp at hk
 |x::xs,hx,k,hk=>by
  rw[OB]at hx;rcases mC.mp hk with rfl|hk
  .lia
  .exact OD #[0] k hk
theorem YH: ∀ n {A}{E}{s}{x y}{u v}{Q},MB x<=n->A.units+n<cLine->SE (mk prog w) s.heap x u->SE (mk prog w) s.heap y v->Q (decide (x=y)) s->wpAny (model prog w) A (eqBool u v) Q E s
 |n,A,E,s,.key a,.key b,u,v,Q,_,_,hx,hy,h=>(mk prog w).eqBool (dC.mp hx) (dC.mp hy) (by rw[Sf]at h;exact h)
 |n,A,E,s,.key a,.tup b,u,v,Q,_,hu,hx,hy,h=>by obtain⟨z,i,j⟩:=YG (dC.mp hx);obtain⟨l,o,_,m,rfl,q,p,f,_⟩:=jZ.mp hy;rw[Zl]at h;exact(LF i j ⟨o,q,p,m,f⟩ #[0]).2.1 prog w E Q h
 |n,A,E,s,.tup a,.key b,u,v,Q,_,hu,hx,hy,h=>by obtain⟨z,i,j⟩:=YG (dC.mp hy);obtain⟨l,o,_,m,rfl,q,p,f,_⟩:=jZ.mp hx;rw[Zm]at h;exact(LF i j ⟨o,q,p,m,f⟩ #[0]).1 prog w E Q h
 |0,A,E,s,.tup a,.tup b,u,v,Q,f,_,hx,hy,h=>by rw[uK]at f;lia
 |n+1,A,E,s,.tup x,.tup y,u,v,Q,f,hu,hx,hy,h=>by
  obtain⟨a,_,_,_,G,_⟩:=jZ.mp hx;obtain⟨b,_,_,_,r,_⟩:=jZ.mp hy;subst G r;rw[uK]at f;rw[Zn]at h;unfold eqBool
  try with_reducible refine ĉ ?_
  show wpAny _ _ _ Q E s;by_cases d:(Value.ref a==Value.ref b)=true
  .rw[iP d];have e:=by have:=eq_of_beq d;injection this
   subst e;have:=NK.tup.inj (US hx hy);subst this;exact wB (wpAny_rule (wP (by simpa using h)))
  .rw[iN0 d]
   refine wB (wpAny_richCompare_same_room (HN hx) (HN hy) F.slot_tuple_eq
    (ą F.slot_tuple_eq (HN hx) F.entry_tuple_eq (Il (λt k H u v Q B C D=>YH n (OD #[0] t k) #[0] B C D) hx hy ⟨_,rfl,(λe=>nomatch e),Ć h⟩) (F.args_tuple_eq_2 _ _)) #[0])
theorem Ek: ∀ n m {A}{E}{s}{x}{u}{Q},MB x<=n->n<m->SE (mk prog w) s.heap x u->Q true s->wpAny (model prog w) A (eqIsQuiet m u) Q E s
 |n,m,A,E,s,.key k,u,Q,_,_,hx,h=>by rw[eqIsQuiet_byValue m ((mk prog w).byValue _ _ (dC.mp hx))];exact wP h
 |0,m,A,E,s,.tup ks,u,Q,d,_,hx,h=>by rw[uK]at d;lia
 |n+1,0,A,E,s,.tup ks,u,Q,d,hm,hx,h=>by lia
 |n+1,m+1,A,E,s,.tup ks,u,Q,hdp,hm,hx,h=>by
  obtain⟨a,o,_,j,rfl,y,z,d,hi⟩:=jZ.mp hx;have t:s.TypeIs (.ref a) "tuple":=⟨o,y,z⟩
  rw[uK]at hdp;unfold eqIsQuiet;refine wB (wpAny_specialOf t F.slot_tuple_eq.lookup ?_);refine wB (wpAny_isInstance t isSubtype_tuple_tuple ?_);refine wB (ė y d ?_);refine wB ?_;rw[<-Array.forIn_toList];refine wpAny_forIn_list _ (λrest r i=>r.1=none/\i=s/\ ∃left,(∀k∈left,k∈ks)/\FE _ s.heap left rest) _ ?_ ?_ _ _ ⟨rfl,rfl,ks,λk f=>f,hi⟩
  .rintro v rest r i ⟨q,rfl,left,b,p⟩
   cases left with
   |nil=>rw[bB]at p;cases p
   |cons k left=>
    obtain⟨D,G,e,B,C⟩:=wM.mp p;cases e;refine wB (Ek n m (OD #[0] k (b k mF0)) #[0] B ?_);exact wP ⟨rfl,rfl,left,λk f=>b k (mO _ f),C⟩
  .rintro⟨I,H⟩ i ⟨q,rfl,_⟩;subst q;exact wP h
end
def Lr(prog)(w):HeapKind prog w NK where
 is:=λh k a=>SE (mk prog w) h k (.ref a)/\MB k<=4
 hash:=HM (mk prog w)
 draws:=NZ
 room:=λA=>A.units+4<cLine
 inj:=λhx hy=>US hx.1 hy.1
 keeps:=λx ho hd hs=>⟨YE (λa o' items n e q=>(hs.2 a λz=>by subst z;rw[ho]at e;cases e;rw[hd]at q;cases q).trans e) x.1,x.2⟩
 pyHash:=λhu hk h=>YF 4 hk.2 hu hk.1 h
 eqBool:=λhu hx hy h=>YH 4 hx.2 hu hx.1 hy.1 h
 quiet:=λhk h=>Ek 4 8 hk.2 ↑4 hk.1 h
noncomputable def DN(P:Ķ)(w:World)(a:Addr)(xs:List (NK×Addr×ĵ)):HO:=
 .ext λh=>xs.length<=sizeLine/\(a==sysModules)=false/\ ∃o es b,h.get? a=some o/\o.ExactDict/\o.data=.dict es b/\es.toList=xs.map (entryOfKey (Lr P w))/\(xs.map (·.1)).Nodup
end M
end L2
namespace L2
open PySem PySem.Spec PyProof.Rows
def XR(h:Heap)(e T:Addr)(cls:ĵ)(d:Option Addr)(j:ĵ):Prop:=
 ∃a b f i,h.get? e=some a/\a.cls=cls/\a.dict=d/\a.data=.fields b/\b[1]? =some (.ref T)/\T≠e/\h.get? T=some f/\f.data=.fields i/\i[3]? =some j/\b[2]? =some .none
def Zo(h:Heap)(e:Addr)(cls:ĵ)(d:Option Addr):Prop:= ∃a b,h.get? e=some a/\a.cls=cls/\a.dict=d/\a.data=.fields b/\b[1]? =some .none/\b[2]? =some .none
structure Mvd(fs:B9)(e T:Addr)(h h':Heap):Prop where
 keep: ∀b o,b≠e->b≠T->b∉fs->h.get? b=some o->h'.get? b=some o
 slot: ∀b o,b≠e->b≠T->h.get? b=some o-> ∃sl,h'.get? b=some {o with slots:=sl}
 there: ∀b o,h.get? b=some o-> ∃o',h'.get? b=some o'
def Mvd.trans(a:Mvd fs e T h h1)(b:Mvd fs e T h1 h2):Mvd fs e T h h2 where
 keep:=λc o h1 h2 h3 q=>b.keep c o h1 h2 h3 (a.keep c o h1 h2 h3 q)
 slot:=λc o h1 h2 q=>by obtain⟨sl,e1⟩:=a.slot c o h1 h2 q;obtain⟨sl',e2⟩:=b.slot c _ h1 h2 e1;exact⟨sl',e2⟩
 there:=λc o q=>let ⟨o',e1⟩:=a.there c o q;b.there c o' e1
def Mvd.new(a:Mvd fs e T h d)(n:h.get? T'=none)(b:Mvd fs e T' d f):Mvd fs e T h f:=by
 have ne: ∀c o,h.get? c=some o->c≠T':=λc o q z=>by rw[z,n]at q;cases q
 exact⟨λc o d f k q=>b.keep c o d (ne c o q) k (a.keep c o d f k q),λc o d f q=>by obtain⟨r,i⟩:=a.slot c o d f q;obtain⟨j,m⟩:=b.slot c _ d (ne c o q) i;exact⟨j,m⟩,λc o q=>let ⟨p,i⟩:=a.there c o q;b.there c p i⟩
theorem OE(f)(o):(Obj.mapFields f o).dict=o.dict:=by obtain⟨c,d,a,b⟩:=o;cases a<;>rfl
section
variable{L:Addr}
def Bt(B:A.frames=some (env::outer))(G:s.heap.FunFrames base (env::outer))(I:env.frame=some L)
  (he:s.heap.get? e=some oe) (hd:oe.data=.fields vs) (hsz:1<vs.size) (h2:vs[2]? =some .none)
  (h: ∀h' F,s.heap.get? F=none->Mvd (LB (env::outer)) e e s.heap h'->XR h' e F oe.cls oe.dict (rawInt L)->Q () {s with heap:=h'}):
  wpAny M A (do let a <-frameOf env;let p <-entryPlaceOf L hadNext;let b <-EntryCells.newEntry head a .none (rawInt L) .none p;setField (.ref e) 1 b) Q E s:=by
 have w:e∉(env::outer).filterMap (·.frame):=λH=>by obtain⟨_,o,y,D⟩:=G.mem H;rw[he]at y;injection y with y;subst y;exact D vs hd
 refine wB (wpAny_frameOf_fun B G I λd f=>?_);refine wB (wpAny_entryPlaceOf λp v=>?_);unfold EntryCells.newEntry newFields;refine wB (ĥ ?_ (v.sizeOk5 _ _ _ _ _));have m:d.get? e=some oe:=(f.2.1 e w).trans he;have n:=hP0 (h:=d) {cls:=.type "traceback",dict:=none,data:=.fields ([head,.ref L,.none,rawInt L,.none]++(if p.isEmpty then List.replicate 6 Value.none else p)).toArray} m;refine ĩ n hd hsz ?_;have u:d.objs.size≠e:=û (ã m);have j:=Ď hd (·.setIfInBounds 1 (Value.ref d.objs.size));have k:=ć _ n (ġ j)
 have r:=(õ (d.push {cls:=.type "traceback",dict:=none,data:=.fields ([head,.ref L,.none,rawInt L,.none]++(if p.isEmpty then List.replicate 6 Value.none else p)).toArray})
  (Obj.mapFields (·.setIfInBounds 1 (Value.ref d.objs.size))) (Ne.symm u)).trans (ä d rfl)
 have keep: ∀b o,b≠e->d.get? b=some o->
   ((d.push {cls:=.type "traceback",dict:=none,data:=.fields ([head,.ref L,.none,rawInt L,.none]++(if p.isEmpty then List.replicate 6 Value.none else p)).toArray}).update e (Obj.mapFields (·.setIfInBounds 1 (Value.ref d.objs.size)))).get? b=some o:=
  λb o i t=>by rw[õ _ _ (Ne.symm i)];exact hP0 _ t
 refine h _ d.objs.size ?_ ⟨λb o i _ C t=>keep b o i ((f.2.1 b C).trans t),λb o i _ t=>?_,λb o t=>?_⟩ ?_
 .cases q:s.heap.get? d.objs.size with
  |none=>rfl
  |some o=>
   obtain⟨z,hs⟩:=f.2.2 _ o q;exact absurd (ã hs) (ĳ _)
 .obtain⟨z,hs⟩:=f.2.2 b o t;exact⟨z,keep b _ i hs⟩
 .by_cases i:b=e
  .subst i;exact⟨_,k⟩
  .obtain⟨z,hs⟩:=f.2.2 b o t;exact⟨_,keep b _ i hs⟩
 .exact⟨_,_,_,_,k,Obj.cls_mapFields _ _,OE _ _,j,by simp[hsz],u,r,rfl,by first |(simp;done)|(rcases v with rfl|⟨_,_,_,_,_,_,_,rfl⟩<;>simp),by rw[Array.getElem?_setIfInBounds_ne (by decide)];exact h2⟩
def Bu(a:A.frames=some (env::outer))(o:s.heap.FunFrames base (env::outer))(k:env.frame=some L)(n:Zo s.heap e cls d)
  (h: ∀h' b,s.heap.get? b=none->Mvd (LB (env::outer)) e e s.heap h'->XR h' e b cls d (rawInt L)->Q () {s with heap:=h'}):wpAny M A (noteFrame (.ref e) env) Q E s:=by
 obtain⟨p,q,i,rfl,rfl,j,f,m⟩:=n;unfold noteFrame;simp only[k];refine wB (ð i j f ?_);exact Bt a o k i j (ă.mp f).1 m h
def setT(i:h0.get? T=some oT)(h:oT.data=.fields ts):Mvd (LB (env::outer)) e T h0 (h0.update T (Obj.mapFields (·.setIfInBounds 3 x))):=by
 have a: ∀b,b≠T->(h0.update T (Obj.mapFields (·.setIfInBounds 3 x))).get? b=h0.get? b:=λb f=>õ _ _ (Ne.symm f);refine⟨λb o _ d _ f=>(a b d).trans f,λb o _ d f=>⟨o.slots,(a b d).trans f⟩,λb o f=>?_⟩;by_cases d:b=T
 .subst d;exact⟨_,ć _ i (ġ (Ď h _))⟩
 .exact⟨o,(a b d).trans f⟩
def JE(C:A.frames=some (env::outer))(P:s.heap.FunFrames base (env::outer))(F:env.frame=some L)(a:XR s.heap e T cls d .none)
  (h: ∀h' u,s.heap.get? u=none->Mvd (LB (env::outer)) e T s.heap h'->XR h' e u cls d (rawInt L)->Q () {s with heap:=h'}):wpAny M A (noteFrame (.ref e) env) Q E s:=by
 obtain⟨Y,K,X,S,H,rfl,rfl,I,N,B,w,p,J,U⟩:=a;unfold noteFrame;simp only[F];refine wB (ð H I N ?_);rw[iP (by simp)];refine wB (ð w p J ?_);rw[iN0 (by simp[rawInt])];refine wB (ĩ w p (ă.mp J).1 ?_);have y:=setT (env:=env) (outer:=outer) (e:=e) (x:=Value.none) w p;have k: ∀b,b≠T->(s.heap.update T (Obj.mapFields (·.setIfInBounds 3 Value.none))).get? b=s.heap.get? b:=λb a=>õ _ _ (Ne.symm a);have j: ∀b o,s.heap.get? b=some o->(∀K,o.data≠.fields K)->b≠T:=λb o a r q=>by rw[q,w]at a;injection a with a;subst a;exact r S p
 refine Bt C (P.of_keeps λb o a r=>⟨o,(k b (j b o a r)).trans a,rfl⟩) F ((k e (Ne.symm B)).trans H) I (ă.mp N).1 U
  λh' u n m f=>h h' u ?_ ⟨λb o i t v a=>m.keep b o i i v (y.keep b o i t v a),λb o i t a=>?_,λb o a=>?_⟩ f
 .cases q:s.heap.get? u with
  |none=>rfl
  |some o=>
   obtain⟨G,hs⟩:=y.there _ o q;have O:(s.heap.update T _).get? u=none:=n;rw[O]at hs;cases hs
 .obtain⟨Z,z⟩:=y.slot b o i t a;obtain⟨D,W⟩:=m.slot b _ i i z;exact⟨D,W⟩
 .obtain⟨G,z⟩:=y.there b o a;exact m.there b G z
def iB(p:XR s.heap e T cls d fl)(h: ∀h',Mvd (LB (env::outer)) e T s.heap h'->XR h' e T cls d .none->Q () {s with heap:=h'}):wpAny M A (setFlight (.ref e) none) Q E s:=by obtain⟨n,r,t,u,k,rfl,rfl,m,j,f,i,a,q,o⟩:=p;have b:=(ă.mp q).1;refine wB (ð k m j ?_);rw[iP (by simp)];refine ĩ i a b (h _ (setT i a) ?_);exact⟨n,r,_,_,(õ _ _ f).trans k,rfl,rfl,m,j,f,ć _ i (ġ (Ď a _)),Ď a _,by simp[b],o⟩
def YI(b:A.frames=some (env::outer))(q:s.heap.FunFrames base (env::outer))(p:env.frame=some L)(o:Zo s.heap e cls d)
  (h: ∀h' a,s.heap.get? a=none->Mvd (LB (env::outer)) e e s.heap h'->XR h' e a cls d .none->Q () {s with heap:=h'}):wpAny M A (leaving env (.ref e)) Q E s:=by
 refine wB (Bu b q p o λr a n m f=>iB f λj k i=>h j a n (m.new n k) i)
def Bv(b:A.frames=some (env::outer))(q:s.heap.FunFrames base (env::outer))(p:env.frame=some L)(o:XR s.heap e T cls d .none)
  (h: ∀h' a,s.heap.get? a=none->Mvd (LB (env::outer)) e T s.heap h'->XR h' e a cls d .none->Q () {s with heap:=h'}):wpAny M A (leaving env (.ref e)) Q E s:=by
 refine wB (JE b q p o λr a n m f=>iB f λj k i=>h j a n (m.new n k) i)
end
def ObjOk.here(x:ObjOk P w H h a o): ∃b,h.get? a=some b:=by
 cases o with
 |lst xs=>obtain⟨_,_,_,_,e⟩:=x;exact⟨_,e⟩
 |tup xs=>obtain⟨_,_,_,b,e,_⟩:=x;exact⟨_,e⟩
 |dK kvs=>obtain⟨_,_,_,_,o,_,_,e,_⟩:=x;exact⟨_,e⟩
 |dT kvs=>obtain⟨_,_,_,_,o,_,_,e,_⟩:=x;exact⟨_,e⟩
 |set S n=>obtain⟨o,_,_,_,e,_⟩:=x;exact⟨_,e⟩
 |ins C dx fs=>obtain⟨_,_,_,e,_⟩:=x;exact⟨_,e⟩
 |own y=>exact x
 |xd fs=>obtain⟨_,⟨_,_,_,e,_⟩,_⟩:=x;exact⟨_,e⟩
 |rng lo hi=>obtain⟨_,_,_,e⟩:=x;exact⟨_,e⟩
 |frz b u=>obtain⟨e,_⟩:=x;exact⟨_,e⟩
 |tbl ps=>exact⟨_,x⟩
 |met f y=>exact⟨_,x⟩
 |ext φ=>obtain⟨_,e,_⟩:=x;exact e
def HOk.none_of(x:HOk P w H h)(n:h.get? a=none):H a=none:=by
 cases q:H a with
 |none=>rfl
 |some u=>
  obtain⟨b,e⟩:=(x a u q).here;rw[n]at e;cases e
section
def Inv.older(J:↑1)(a:X.ex=[])(n:s.heap.get? b=none):X.s₀.heap.get? b=none:=by
 cases q:X.s₀.heap.get? b with
 |none=>rfl
 |some o=>
  obtain⟨d,e⟩:=J.base.there b o q (by rw[a];simp);rw[n]at e;cases e
def Inv.moved(J:↑1)(j:X.ex=[])(m:Mvd (LB X.stack) e T s.heap h')(ne:X.s₀.heap.get? e=none)(E:X.s₀.heap.get? T=none)(C:H e=none)(D:H T=none):
  Un X.fs [] X.H₀ H X.s₀.heap h'/\HOk X.prog X.w H h':=by
 have a: ∀b:Addr,b∉X.ex:=λb=>by rw[j];simp
 have h: ∀b o,X.s₀.heap.get? b=some o->b≠e:=λb o q z=>by rw[z,ne]at q;cases q
 have f: ∀b o,X.s₀.heap.get? b=some o->b≠T:=λb o q z=>by rw[z,E]at q;cases q
 refine⟨⟨λb o q n i _=>?_,λb o q n i _=>?_,λb o q n _=>J.base.free b o q n (a b),λb o q _=>?_,J.base.tups,J.base.frzs,J.base.tbls⟩,λb u q=>(J.hok b u q).stay (λc v p r=>?_) (λ_ q=>q) λ_ _ q=>q⟩
 .refine m.keep b o (h b o q) (f b o q) (λz=>?_) (J.base.keep b o q n i (a b));rcases mC.mp (J.stkSub b z)with z|z
  .exact absurd z (é (æ (ã q) J.ok.above))
  .exact i z
 .obtain⟨G,k⟩:=J.base.slot b o q n i (a b);obtain⟨A,F⟩:=m.slot b _ (h b o q) (f b o q) k;exact⟨A,F⟩
 .obtain⟨B,k⟩:=J.base.there b o q (a b);exact m.there b B k
 .have t: ∃z,H c=some z:=by
   rcases p with rfl|p
   .exact⟨_,q⟩
   .exact⟨_,p⟩
  obtain⟨z,d⟩:=t;refine m.keep c v (λy=>by rw[y,C]at d;cases d) (λy=>by rw[y,D]at d;cases d) (λy=>?_) r;rw[J.stkFree c y]at d;cases d
end
def YJ(P:Ķ)(w:World):Ib:=λa H s E x b=> ∃e T C d H',x=.ref e/\b.os=s.os/\AllBare b.gens/\Un (LB a) [] H H' s.heap b.heap/\HOk P w H' b.heap/\XR b.heap e T (.ref C) d .none/\
 s.heap.get? e=none/\s.heap.get? T=none/\H' e=none/\H' T=none/\E (.ref C) d H'
structure XOk(X:Cx)(E:XK):Prop where
 pass:JC (YJ X.prog X.w) X E
 born: ∀(pins:L1)(σ:St)(H:Hp)(s:Ĵ)(e C:Addr)(d:Option Addr),Inv X pins σ H s->Zo s.heap e (.ref C) d->X.s₀.heap.get? e=none->H e=none->E (.ref C) d H->X.xe (.ref e) s
section
variable{K:P0}
def eT:XOk (LZ (YJ P w) P w K mg base N qual scope f cd A outer s H E) E:=by
 refine⟨λpins σ t s1 x D I h=>?_,λpins σ t s1 e C d J b ne a q=>?_⟩
 .obtain⟨e,T,C,d,H',rfl,os,bare,un,r,y,ne,v,a,B,q⟩:=h;have J:=I.call' os un r bare (λ_ z=>nomatch z);have i:=I.older rfl ne;have o:=I.older rfl v;refine Bv J.ok.frames J.stack rfl y λh' j n m p=>?_;obtain⟨u,k⟩:=J.moved rfl m i o a B;exact⟨e,j,C,d,H',rfl,J.os,J.bare,u,k,p,i,J.older rfl n,a,J.hok.none_of n,q⟩
 .refine YI J.ok.frames J.stack rfl b λh' j n m p=>?_;obtain⟨u,k⟩:=J.moved rfl m ne ne a a;exact⟨e,j,C,d,t,rfl,J.os,J.bare,u,k,p,ne,J.older rfl n,a,J.hok.none_of n,q⟩
end
noncomputable abbrev iV:List Value:=[.type "ValueError",.type "Exception",.type "BaseException",.type "object"]
noncomputable def qn:List Str:=["__class__","__getattribute__","__getattr__","__setattr__","place","number"]
def uM(h:Heap)(C M:Addr):Prop:=
 ∃nm q N bs o m sub d a e k i j r f p b,h.get? C=some (excClassObj nm q C N bs (.ref M::iV) o m sub d a e k i j r f p)/\h.Ns N b/\(∀n∈qn,b n=none)/\
  ∃nm q N bs o m sub d a e k i j r f p b,h.get? M=some (excClassObj nm q M N bs iV o m sub d a e k i j r f p)/\h.Ns N b/\(∀n∈qn,b n=none)
section
variable{os:OsState}
def uN(O:uM h C M)(a:Q ((Value.ref C::.ref M::iV).contains base) ⟨h,g,d,t,os⟩):wpAny Mo A (isSubtype (.ref C) base) Q E ⟨h,g,d,t,os⟩:=by obtain⟨nm,q,N,bs,r,p,sub,f,b,i,o,m,n,u,k,s,j,e,_⟩:=O;exact wpAny_isSubtype_exc e a
def rF(O:uM h C M)(j:n∈qn)(i:typeLookup (.type "ValueError") n=pure y)(m:Q y ⟨h,g,d,t,os⟩):wpAny Mo A (typeLookup (.ref C) n) Q E ⟨h,g,d,t,os⟩:=by
 obtain⟨nm,q,N,bs,I,H,sub,s,p,u,G,z,B,K,w,J,v,k,r,e,_,_,_,_,_,_,_,_,_,_,_,_,_,_,_,_,D,o,f,b⟩:=O;have a:lookupAlong iV n=pure y:=by rw[typeLookup_eq,F.excBase_ValueError.mroIs]at i;exact i
 rw[typeLookup_eq];refine wB (wpAny_mroOf_exc k ?_);rw[lookupAlong_cons];refine wB (wpAny_classOwn_exc k r ?_);rw[e n j,lookupAlong_cons];refine wB (wpAny_classOwn_exc o f ?_);rw[b n j,a];exact wP m
def Ls(O:uM h C M): ∃o,h.get? C=some o/\o.cls=.type "type"/\ ∃b,o.data=.cls b:=by obtain⟨_,_,_,_,_,_,_,_,_,_,_,_,_,_,_,_,_,a,_⟩:=O;exact⟨_,a,rfl,_,rfl⟩
end
def qn1:("__class__":Str)∈qn:=.head _
def qn2:("__getattribute__":Str)∈qn:=.tail _ (.head _)
def qn3:("__getattr__":Str)∈qn:=.tail _ t1M
theorem Lu:typeLookup (.type "ValueError") "__class__"=pure (some (.builtin "object.__class__")):=by rw[typeLookup_type,builtinLookup_eq_fast];kernel_rfl
theorem Wq:typeLookup (.type "ValueError") "__getattribute__"=pure (some (.builtin "BaseException.__getattribute__")):=by rw[typeLookup_type,builtinLookup_eq_fast];kernel_rfl
theorem YK:typeLookup (.type "ValueError") "__getattr__"=pure none:=by rw[typeLookup_type,builtinLookup_eq_fast];kernel_rfl
section
variable{os:OsState}
def Bw(O:uM h C M)(e:h.get? a=some o)(f:o.cls=.ref C)(j:R (.ok (.ret (.ref C))) ⟨h,g,d,t,os⟩):
  codeAny (model prog w) A (.call (.builtin "getset_descriptor.__get__") ⟨[.builtin "object.__class__",.ref a,.ref C],[]⟩) R ⟨h,g,d,t,os⟩:=by
 have b:(⟨h,g,d,t,os⟩:Ĵ).TypeIs (.builtin "object.__class__") "getset_descriptor":=F.typeOf_object_class;have i:(Value.ref C::.ref M::iV).contains (.type (".".intercalate ("object.__class__".cutAt '.').dropLast))=true:=by rw[F.owner_object_class];simp[Ĉ]
 refine ď F.slot_gs_get.plain F.entry_gs_get (F.slot_gs_get.check _ _ _ _ _ _ _ _ b (F.args_gs_get _ _ _) ?_)
 repeat (any_goals (first |assumption|(with_reducible refine í e ?_;rw[f])|(with_reducible refine uN O ?_;rw[i])|wp_step))
 refine⟨Ĳ _ (by decide+kernel),codeAny_builtin F.entry_object_class ?_⟩
 repeat (any_goals (first |assumption|(with_reducible refine í e ?_;rw[f])|wp_step))
def SI(O:uM h C M)(b:h.get? a=some o)(i:o.cls=.ref C)(j:Q () ⟨h,g,d,t,os⟩):wpAny Mo A (checkBuiltinCall "BaseException.__getattribute__" ⟨[.ref a,nameV],[]⟩) Q E ⟨h,g,d,t,os⟩:=by
 have f:builtinKind "BaseException.__getattribute__"=some .slot:=by decide+kernel
 have hs:splitId "BaseException.__getattribute__"=some ("BaseException","__getattribute__"):=by decide+kernel
 have e:(Value.ref C::.ref M::iV).contains (.type "BaseException")=true:=by simp[Ĉ]
 have k:=F.args_bexc_ga (.ref a) nameV;simp only[checkBuiltinCall,f,hs];refine wB ?_;unfold isInstance
 repeat (first |(with_reducible refine í b ?_;rw[i])|(with_reducible refine uN O ?_;rw[e])|wp_step)
 exact j
def UT(O:uM h C M)(b:h.get? a=some o)(e:o.cls=.ref C)(m:Q (.done (.ret (.ref C))) ⟨h,g,d,t,os⟩):
  wpAny (model prog w) A (Builtin.«object.__getattribute__» ⟨[.ref a,.str "__class__" tk],[]⟩) Q E ⟨h,g,d,t,os⟩:=by
 have f:(⟨h,g,d,t,os⟩:Ĵ).TypeIs (.builtin "object.__class__") "getset_descriptor":=F.typeOf_object_class;have j:=F.typeOf_object_class;have i:=F.slot_gs_get.lookup;have k:=F.slot_gs_set.lookup
 repeat (any_goals (first |assumption|(with_reducible refine í b ?_;rw[e])|with_reducible refine rF O qn1 Lu ?_|wp_step))
 refine Bw O b e ?_
 repeat (any_goals (first |assumption|wp_step))
def YL(O:uM h C M)(b:h.get? a=some o)(e:o.cls=.ref C)(f:R (.ok (.ret (.ref C))) ⟨h,g,d,t,os⟩):
  codeAny (model prog w) A (.call (.builtin "BaseException.__getattribute__") ⟨[.ref a,.str "__class__" tk],[]⟩) R ⟨h,g,d,t,os⟩:=
 ď F.attrBase_ValueError.ga.plain F.entry_bexc_ga (SI O b e (UT O b e f))
def Im{b:Bool}(O:uM h C M)(f:h.get? a=some o)(i:o.cls=.ref C)(n:Q (.ref C) ⟨h,g,d,t,os⟩):
  wpAny (model prog w) A (getAttrBy (.ref a) (.str "__class__" tk) b expr) Q E ⟨h,g,d,t,os⟩:=by
 have m:=F.attrBase_ValueError.ga.bind (.ref a);have k:(expr&&onTheHeap (Value.builtin "BaseException.__getattribute__"))=false:=by cases expr<;>rfl
 have e:(Value.builtin "BaseException.__getattribute__"==Value.builtin "object.__getattribute__")=false:=by decide+kernel
 have j:(onTheHeap (Value.ref C)&&Value.builtin "BaseException.__getattribute__"==Value.builtin "object.__getattribute__")=false:=by rw[e];rfl
 repeat (any_goals (first |assumption|(with_reducible refine í f ?_;rw[i])|with_reducible refine rF O qn2 Wq ?_|with_reducible refine rF O qn3 YK ?_|wp_step))
 refine YL O f i ?_
 repeat (any_goals (first |assumption|wp_step))
def YM(O:uM h C M)(b:h.get? a=some o)(e:o.cls=.ref C)(f:Q (some (.ref C)) ⟨h,g,d,t+1,os⟩):wpAny (model prog w) A (getAttr? (.ref a) "__class__") Q E ⟨h,g,d,t,os⟩:=by
 unfold getAttr? getAttrBy?
 repeat (any_goals (first |assumption|with_reducible apply Im O b e|wp_step))
def Sh(O:uM h C M)(j:h.get? a=some o)(i:o.cls=.ref C)(p:h.get? D=some {cls:=.type "type",dict:=dD,data:=.cls cD,slots:=sD})(n:h.get? C=some oC)(e:oC.cls=.type "type")(b: ∃k,oC.data=.cls k)(f:(Value.ref C::.ref M::iV).contains (.ref D)=false)(v:Q (.done (.ret (.bool false))) ⟨h,g,d,t+1,os⟩):
  wpAny (model prog w) A (Builtin.«isinstance.nested» ⟨[.ref a,.ref D,rawInt 0],[]⟩) Q E ⟨h,g,d,t,os⟩:=by
 have m:(Value.ref C==Value.ref D)=false:=by rw[Ĉ,Bool.or_eq_false_iff]at f;have:=f.1;rw[beq_eq_false_iff_ne]at this ⊢;exact this.symm
 obtain⟨k,b⟩:=b;obtain⟨r,u,q,s⟩:=oC;dsimp only at e b;subst e b
 repeat (any_goals (first |assumption|(with_reducible refine í j ?_;rw[i])|with_reducible refine í p ?_|with_reducible refine í n ?_|(with_reducible refine uN O ?_;rw[f])|with_reducible apply YM O j i|wp_step))
def Io(b:h.get? a=some o)(e:o.cls=.ref C)(f:Q (.done (.ret (.bool true))) ⟨h,g,d,t,os⟩):
  wpAny (model prog w) A (Builtin.«isinstance.nested» ⟨[.ref a,.ref C,rawInt 0],[]⟩) Q E ⟨h,g,d,t,os⟩:=by
 repeat (any_goals (first |assumption|(with_reducible refine í b ?_;rw[e])|wp_step))
def Si(O:uM h C M)(b:h.get? a=some o)(i:o.cls=.ref C)(f:typeOf (.type T)=pure (.type "type"))(j:(Value.ref C::.ref M::iV).contains (.type T)=true)(k:Q (.done (.ret (.bool true))) ⟨h,g,d,t,os⟩):
  wpAny (model prog w) A (Builtin.«isinstance.nested» ⟨[.ref a,.type T,rawInt 0],[]⟩) Q E ⟨h,g,d,t,os⟩:=by
 have e:(Value.ref C==Value.type T)=false:=rfl
 repeat (any_goals (first |assumption|(with_reducible refine í b ?_;rw[i])|(with_reducible refine uN O ?_;rw[j])|wp_step))
end
end L2
namespace L2
namespace M
open PySem PySem.Spec PyProof.Rows
inductive MV where
 |non|bl (b:Bool)|int (i:Int)|str (x:Db)|tup (ds:List MV)|scr (ds:List MV)|loc (l:Nat)|typ (n:String)|obj (c:Str) (ns:C0) (ds:List MV)
abbrev R0:=List MV
abbrev T0:=Option MV
abbrev V0:=List (Nat×List MV)
abbrev X0:=List (MV×MV)
abbrev Y0:=List (List MV)
instance:Inhabited MV:=⟨.non⟩
inductive MO where
 |lst (ds:R0)|dic (kvs:X0)|ins (c:Str) (fs:List (Str×MV))|rcd (c:Str) (fs:List (Str×MV))|fdc (kvs:X0)
abbrev Sto:=List MO
def SqF(K:P0)(H:Hp)(a:Addr)(xs:List V):Prop:=
 (∃o,H a=some (.frz o (.lst xs)))\/
  ∃(o:Obj)(b:B0)(n:Nat),K.lookup a=some o/\o.cls=.type "list"/\o.dict=none/\o.data=.seq b n/\b.size<=sizeLine/\Vals xs b.toList
def SqF.l{K:P0}(h:SqF K H a xs):SqL K H a xs:=by
 rcases h with⟨o,h⟩|h
 .exact .inl (.inr ⟨o,h⟩)
 .exact .inr h
mutual
def Den(K:P0)(α:B9)(H:Hp):MV->V->Prop
 |.non,v=>v=.non
 |.bl b,v=>v=.bl b
 |.int i,v=>v=.int i
 |.str x,v=>v=.str (yZ x)
 |.tup ds,v=> ∃a d,v=.ref a/\SqT K H a d/\DenL K α H ds d
 |.scr ds,v=> ∃a d,v=.ref a/\SqF K H a d/\DenL K α H ds d
 |.loc l,v=> ∃a,v=.ref a/\α[l]? =some a
 |.typ n,v=>v=.ty n
 |.obj c ns ds,v=> ∃a C e d o,v=.ref a/\H a=some (.frz o (.ins C e (ns.zip d)))/\PySem.W.nsIn K mainGlobals c=some (some (.ref C))/\(PySem.W.clsIn K C).map (·.name)=some c/\ns.length=d.length/\DenL K α H ds d
def DenL(K:P0)(α:B9)(H:Hp):List MV->List V->Prop
 |[],vs=>vs=[]
 |d::ds,vs=> ∃v r,vs=v::r/\Den K α H d v/\DenL K α H ds r
end
structure Ex0(α:B9)(H:Hp)(α':B9)(H':Hp):Prop where
 pre: ∃t,α'=α++t
 tup: ∀b xs,H b=some (.tup xs)->H' b=some (.tup xs)
 frz: ∀b o u,H b=some (.frz o u)->H' b=some (.frz o u)
structure Ext(α:B9)(H:Hp)(α':B9)(H':Hp):Prop extends Ex0 α H α' H' where
 new: ∀b∈α',b∈α\/H b=none
 keep: ∀b o,H b=some o->b∉α->H' b=some o
 has: ∀b o,H b=some o-> ∃o',H' b=some o'
section
variable{K:P0}{α α':B9}{H H':Hp}
def Ext.refl(α)(H):Ext α H α H:=⟨⟨⟨[],by simp⟩,λ_ _ h=>h,λ_ _ _ h=>h⟩,λb h=>.inl h,λ_ _ h _=>h,λ_ o h=>⟨o,h⟩⟩
def Ex0.grow(α t)(H):Ex0 α H (α++t) H:=⟨⟨t,rfl⟩,λ_ _ h=>h,λ_ _ _ h=>h⟩
def Ext.free(x:Ext α H α' H')(h:H' b=none):H b=none:=by
 cases e:H b with
 |none=>rfl
 |some o=>obtain⟨a,h'⟩:=x.has b o e;rw[h]at h';cases h'
def Ext.out(x:Ext α H α' H')(h:H b=some o)(n:b∉α):b∉α':=λz=>by
 rcases x.new b z with z|z
 .exact n z
 .rw[h]at z;cases z
def Ext.trans(x:Ext α H α' H')(y:Ext α' H' α'' H''):Ext α H α'' H'' where
 pre:=by obtain⟨t,rfl⟩:=x.pre;obtain⟨u,rfl⟩:=y.pre;exact⟨_,by rw[aA]⟩
 new:=λb h=>(y.new b h).elim (x.new b) λz=>.inr (x.free z)
 keep:=λb o h n=>y.keep b o (x.keep b o h n) (x.out h n)
 has:=λb o h=>let ⟨o',h'⟩:=x.has b o h;y.has b o' h'
 tup:=λb xs h=>y.tup b xs (x.tup b xs h)
 frz:=λb o u h=>y.frz b o u (x.frz b o u h)
def Ex0.at(x:Ex0 α H α' H'){l:Nat}(h:α[l]? =some a):α'[l]? =some a:=by obtain⟨t,rfl⟩:=x.pre;rw[á (gS.mp h).1];exact h
def Ex0.sqT(x:Ex0 α H α' H')(q:SqT K H a vs):SqT K H' a vs:=by
 rcases q with(q|⟨o,q⟩)|q
 .exact .inl (.inl (x.tup a vs q))
 .exact .inl (.inr ⟨o,x.frz a o _ q⟩)
 .exact .inr q
def Ex0.sqF(x:Ex0 α H α' H')(q:SqF K H a vs):SqF K H' a vs:=by
 rcases q with⟨o,q⟩|q
 .exact .inl ⟨o,x.frz a o _ q⟩
 .exact .inr q
mutual
theorem Den.ex0(x:Ex0 α H α' H'): ∀{d:MV}{v:V},Den K α H d v->Den K α' H' d v
 |.non,_,q=>by unfold Den at q ⊢; exact q
 |.bl _,_,q=>by unfold Den at q ⊢; exact q
 |.int _,_,q=>by unfold Den at q ⊢; exact q
 |.str _,_,q=>by unfold Den at q ⊢; exact q
 |.typ _,_,q=>by unfold Den at q ⊢; exact q
 |.obj c ns ds,_,q=>by unfold Den at q ⊢;obtain⟨a,C,f,b,o,e,h,j,i,k,l⟩:=q;exact⟨a,C,f,b,o,e,x.frz a _ _ h,j,i,k,DenL.ex0 x l⟩
 |.loc _,_,q=>by unfold Den at q ⊢;obtain⟨a,e,h⟩:=q;exact⟨a,e,x.at h⟩
 |.tup ds,_,q=>by unfold Den at q ⊢;obtain⟨a,b,e,s,l⟩:=q;exact⟨a,b,e,x.sqT s,DenL.ex0 x l⟩
 |.scr ds,_,q=>by unfold Den at q ⊢;obtain⟨a,b,e,s,l⟩:=q;exact⟨a,b,e,x.sqF s,DenL.ex0 x l⟩
theorem DenL.ex0(x:Ex0 α H α' H'): ∀{ds:R0}{b:List V},DenL K α H ds b->DenL K α' H' ds b
 |[],_,q=>by unfold DenL at q ⊢; exact q
 |d::ds,_,q=>by unfold DenL at q ⊢;obtain⟨v,r,e,a,l⟩:=q;exact⟨v,r,e,Den.ex0 x a,DenL.ex0 x l⟩
end
def Den.ext(x:Ext α H α' H')(q:Den K α H d v):Den K α' H' d v:=q.ex0 x.toEx0
def DenL.ext(x:Ext α H α' H')(q:DenL K α H d v):DenL K α' H' d v:=q.ex0 x.toEx0
theorem rG:Den K α H .non .non:=by unfold Den;rfl
theorem wN(b):Den K α H (.bl b) (.bl b):=by unfold Den;rfl
theorem xD(i):Den K α H (.int i) (.int i):=by unfold Den;rfl
theorem gT(x):Den K α H (.str x) (.str (yZ x)):=by unfold Den;rfl
theorem El(n):Den K α H (.typ n) (.ty n):=by unfold Den;rfl
def rH(s:SqT K H a vs)(l:DenL K α H ds vs):Den K α H (.tup ds) (.ref a):=by unfold Den;exact⟨a,vs,rfl,s,l⟩
def Em(s:SqF K H a vs)(l:DenL K α H ds vs):Den K α H (.scr ds) (.ref a):=by unfold Den;exact⟨a,vs,rfl,s,l⟩
def HP(h:α[l]? =some a):Den K α H (.loc l) (.ref a):=by unfold Den;exact⟨a,rfl,h⟩
def iW(d:Den K α H .non v):v=.non:=by unfold Den at d;exact d
def rK(d:Den K α H (.bl b) v):v=.bl b:=by unfold Den at d;exact d
def jS(d:Den K α H (.int i) v):v=.int i:=by unfold Den at d;exact d
def kM(d:Den K α H (.str x) v):v=.str (yZ x):=by unfold Den at d;exact d
def Sj(h:H a=some (.frz o (.ins C dx (ns.zip vs))))(d:PySem.W.nsIn K mainGlobals c=some (some (.ref C)))(b:(PySem.W.clsIn K C).map (·.name)=some c)(e:ns.length=vs.length)(l:DenL K α H ds vs):Den K α H (.obj c ns ds) (.ref a):=by unfold Den;exact⟨a,C,dx,vs,o,rfl,h,d,b,e,l⟩
def eU(d:Den K α H (.obj c ns ds) v): ∃a C e b o,v=.ref a/\H a=some (.frz o (.ins C e (ns.zip b)))/\PySem.W.nsIn K mainGlobals c=some (some (.ref C))/\(PySem.W.clsIn K C).map (·.name)=some c/\ns.length=b.length/\DenL K α H ds b:=by unfold Den at d;exact d
def eV(d:Den K α H (.typ n) v):v=.ty n:=by unfold Den at d;exact d
def jD(d:Den K α H (.tup ds) v): ∃a b,v=.ref a/\SqT K H a b/\DenL K α H ds b:=by unfold Den at d;exact d
def eW(d:Den K α H (.scr ds) v): ∃a b,v=.ref a/\SqF K H a b/\DenL K α H ds b:=by unfold Den at d;exact d
def nP(d:Den K α H (.loc l) v): ∃a,v=.ref a/\α[l]? =some a:=by unfold Den at d;exact d
theorem xB:DenL K α H [] []:=by unfold DenL;rfl
def yW(a:Den K α H d v)(l:DenL K α H ds vs):DenL K α H (d::ds) (v::vs):=by unfold DenL;exact⟨v,vs,rfl,a,l⟩
def DenL.uncons(l:DenL K α H (d::ds) vs): ∃v r,vs=v::r/\Den K α H d v/\DenL K α H ds r:=by unfold DenL at l;exact l
def DenL.isnil(l:DenL K α H [] vs):vs=[]:=by unfold DenL at l;exact l
theorem DenL.length: ∀{ds}{a},DenL K α H ds a->a.length=ds.length
 |[],_,q=>by rw[q.isnil];rfl
 |d::ds,_,q=>by obtain⟨v,r,rfl,_,l⟩:=q.uncons;rw[lC0,lC0,DenL.length l]
theorem DenL.append: ∀{ds es}{e b},DenL K α H ds e->DenL K α H es b->DenL K α H (ds++es) (e++b)
 |[],_,_,_,q,l=>by rw[q.isnil];exact l
 |d::ds,_,_,_,q,l=>by obtain⟨v,r,rfl,a,f⟩:=q.uncons;exact yW a (DenL.append f l)
theorem DenL.drop: ∀{ds}{a} n ,DenL K α H ds a->DenL K α H (ds.drop n) (a.drop n)
 |_,_,0,q=>q
 |[],_,n+1,q=>by rw[q.isnil];exact xB
 |d::ds,_,n+1,q=>by obtain⟨v,r,rfl,_,l⟩:=q.uncons;exact DenL.drop n l
theorem DenL.take: ∀{ds}{b} n ,DenL K α H ds b->DenL K α H (ds.take n) (b.take n)
 |_,_,0,q=>xB
 |[],_,n+1,q=>by rw[q.isnil];exact xB
 |d::ds,_,n+1,q=>by obtain⟨v,r,rfl,a,l⟩:=q.uncons;exact yW a (DenL.take n l)
theorem DenL.reverse: ∀{ds}{b},DenL K α H ds b->DenL K α H ds.reverse b.reverse
 |[],_,q=>by rw[q.isnil];exact xB
 |d::ds,_,q=>by obtain⟨v,r,rfl,a,l⟩:=q.uncons;rw[reverse_cons,reverse_cons];exact(DenL.reverse l).append (yW a xB)
theorem DenL.set(a:Den K α H d v): ∀{ds}{b} n ,DenL K α H ds b->DenL K α H (ds.set n d) (b.set n v)
 |[],_,_,q=>by rw[q.isnil];exact xB
 |e::ds,_,0,q=>by obtain⟨h,r,rfl,f,l⟩:=q.uncons;exact yW a l
 |e::ds,_,n+1,q=>by obtain⟨h,r,rfl,f,l⟩:=q.uncons;exact yW f (DenL.set a n l)
theorem DenL.get: ∀{ds}{b}{i:Nat}{v},DenL K α H ds b->b[i]? =some v-> ∃d,ds[i]? =some d/\Den K α H d v
 |[],_,_,_,q,e=>by rw[q.isnil]at e;simp at e
 |d::ds,_,0,_,q,e=>by obtain⟨v,r,rfl,a,l⟩:=q.uncons;simp at e;subst e;exact⟨d,rfl,a⟩
 |d::ds,_,i+1,_,q,e=>by obtain⟨v,r,rfl,a,l⟩:=q.uncons;obtain⟨j,f,h⟩:=DenL.get l (by simpa using e);exact⟨j,by simpa using f,h⟩
def DenL.at{i:Nat}(q:DenL K α H ds vs)(e:ds[i]? =some d): ∃v,vs[i]? =some v/\Den K α H d v:=by
 have hi:=(gS.mp e).1;have b:i<vs.length:=by rw[q.length];exact hi
 obtain⟨h,a,f⟩:=q.get (gE b);rw[e]at a;cases a;exact⟨_,gE b,f⟩
def DenL.cut(q:DenL K α H ds vs)(lo hi):DenL K α H (cU ds lo hi) (Id vs lo hi):=by unfold cU Id;rw[q.length];exact(q.drop _).take _
theorem SJ: ∀(ns:Za),DenL K α H (ns.map MV.int) (ns.map V.int)
 |[]=>xB
 |b::bs=>yW (xD b) (SJ bs)
end
structure Gm where
 K:PySem.W.Frag
 mg:Str->Option ĵ
 P:Ķ
 w:World
abbrev _root_.L2.Cx.g(X:Cx):Gm:=⟨X.K,X.mg,X.prog,X.w⟩
inductive DenF(K:P0)(α:B9)(H:Hp):List (Str×MV)->List (Str×V)->Prop
 |nil:DenF K α H [] []
 |cons {x:Str} {d:MV} {v:V} {fs gs}:Den K α H d v->DenF K α H fs gs->DenF K α H ((x,d)::fs) ((x,v)::gs)
theorem DenF.ex0{K:P0}(x:Ex0 α H α' H'): ∀{fs gs},DenF K α H fs gs->DenF K α' H' fs gs
 |_,_,.nil=>.nil
 |_,_,.cons a l=>.cons (a.ex0 x) (DenF.ex0 x l)
def KeyD:MV->Key->Prop
 |.int i,k=>k=.inl i
 |.str x,k=>k=.inr (yZ x)
 |_,_=>False
inductive DenK(K:P0)(α:B9)(H:Hp):List (MV×MV)->List (Key×V)->Prop
 |nil:DenK K α H [] []
 |cons {k:MV} {k':Key} {d:MV} {v:V} {fs gs}:KeyD k k'->Den K α H d v->DenK K α H fs gs->DenK K α H ((k,d)::fs) ((k',v)::gs)
theorem DenK.ex0{K:P0}(x:Ex0 α H α' H'): ∀{fs gs},DenK K α H fs gs->DenK K α' H' fs gs
 |_,_,.nil=>.nil
 |_,_,.cons k a l=>.cons k (a.ex0 x) (DenK.ex0 x l)
mutual
def U9:MV->Option NK
 |.non=>some (.key none)
 |.int i=>some (.key (some (.inl i)))
 |.str x=>some (.key (some (.inr (yZ x))))
 |.tup ds=>(Wr ds).map .tup
 |_=>none
def Wr:List MV->Option (List NK)
 |[]=>some []
 |d::ds=>(U9 d).bind λk=>(Wr ds).map (k::·)
end
inductive DenN(K:P0)(α:B9)(H:Hp):List (MV×MV)->List (NK×Addr×ĵ)->Prop
 |nil:DenN K α H [] []
 |cons {k:MV} {nk:NK} {a:Addr} {d:MV} {v:V} {u:ĵ} {fs xs}:U9 k=some nk->MB nk<=4->Den K α H k (.ref a)->Den K α H d v->RelV v u->DenN K α H fs xs->DenN K α H ((k,d)::fs) ((nk,a,u)::xs)
theorem DenN.ex0{K:P0}(x:Ex0 α H α' H'): ∀{fs xs},DenN K α H fs xs->DenN K α' H' fs xs
 |_,_,.nil=>.nil
 |_,_,.cons k e a d r l=>.cons k e (a.ex0 x) (d.ex0 x) r (DenN.ex0 x l)
def ObD(g:Gm)(α:B9)(H:Hp)(a:Addr):MO->Prop
 |.lst ds=> ∃f,H a=some (.lst f)/\DenL g.K α H ds f
 |.dic kvs=>(∃i,H a=some (.dK i)/\DenK g.K α H kvs i)\/ ∃xs,H a=some (DN g.P g.w a xs)/\DenN g.K α H kvs xs
 |.ins c fs=> ∃C d,g.mg c=some (.ref C)/\DenF g.K α H fs d/\
   ∃b,H a=some (.frz b (.ext λh=>h.get? a=some b))/\b.cls=.ref C/\(fs=[]\/ ∃e j,b.dict=some e/\H e=some (.frz j (.xd d))/\ ∃f,b.data=.fields f)
 |.rcd c fs=> ∃C e d,PySem.W.nsIn g.K mainGlobals c=some (some (.ref C))/\H a=some (.ins C e d)/\DenF g.K α H fs d
 |.fdc kvs=> ∃b xs,H a=some (.frz b (DN g.P g.w a xs))/\DenN g.K α H kvs xs
def ObD.there(h:ObD g α H a o): ∃b,H a=some b/\(∀xs,b≠.tup xs)/\ ∀f u,b=.frz f u-> ∃e,u=.ext e:=by
 cases o with
 |lst ds=>obtain⟨d,h,_⟩:=h;exact⟨_,h,(λxs z=>by cases z),λ_ _ z=>by cases z⟩
 |dic ds=>
  rcases h with⟨d,h,_⟩|⟨d,h,_⟩
  .exact⟨_,h,(λxs z=>by cases z),λ_ _ z=>by cases z⟩
  .exact⟨_,h,(λxs z=>by cases z),λ_ _ z=>by cases z⟩
 |ins c ds=>
  obtain⟨_,_,_,_,_,h,_⟩:=h;exact⟨_,h,(λxs z=>by cases z),λ_ _ z=>by cases z;exact⟨_,rfl⟩⟩
 |rcd c ds=>obtain⟨_,_,_,_,h,_⟩:=h;exact⟨_,h,(λxs z=>by cases z),λ_ _ z=>by cases z⟩
 |fdc kvs=>obtain⟨_,_,h,_⟩:=h;exact⟨_,h,(λxs z=>by cases z),λ_ _ z=>by cases z;exact⟨_,rfl⟩⟩
def ObD.move(h:ObD g α H a o)(x:Ex0 α H α' H')(e:H' a=H a):ObD g α' H' a o:=by
 cases o with
 |lst ds=>obtain⟨b,h,l⟩:=h;exact⟨b,e.trans h,l.ex0 x⟩
 |dic ds=>
  rcases h with⟨b,h,l⟩|⟨b,h,l⟩
  .exact .inl ⟨b,e.trans h,l.ex0 x⟩
  .exact .inr ⟨b,e.trans h,l.ex0 x⟩
 |ins c ds=>
  obtain⟨C,i,m,l,d,h,r,q⟩:=h;exact⟨C,i,m,l.ex0 x,d,e.trans h,r,q.imp id λ⟨f,j,k,n,p⟩=>⟨f,j,k,x.frz _ _ _ n,p⟩⟩
 |rcd c ds=>obtain⟨C,f,i,m,h,l⟩:=h;exact⟨C,f,i,m,e.trans h,l.ex0 x⟩
 |fdc kvs=>obtain⟨d,xs,h,l⟩:=h;exact⟨d,xs,e.trans h,l.ex0 x⟩
structure Wd(g:Gm)(α:B9)(S:Sto)(H:Hp):Prop where
 len:α.length=↑5
 nd:α.Nodup
 obj: ∀(l:Nat)(a:Addr)(o:MO),α[l]? =some a->S[l]? =some o->ObD g α H a o
section
variable{H:Hp}
def Wd.at(w:Wd g α S H){l:Nat}(h:S[l]? =some o): ∃a,α[l]? =some a/\ObD g α H a o:=by
 have b:l<α.length:=by rw[w.len];exact(gS.mp h).1
 exact⟨α[l],gE b,w.obj l _ o (gE b) h⟩
def Wd.of(w:Wd g α S H){l:Nat}(h:α[l]? =some a): ∃o,S[l]? =some o/\ObD g α H a o:=by
 have b:l<S.length:=by rw[<-w.len];exact(gS.mp h).1
 exact⟨S[l],gE b,w.obj l a _ h (gE b)⟩
def Wd.mem(w:Wd g α S H)(h:a∈α): ∃b,H a=some b/\(∀xs,b≠.tup xs)/\ ∀e u,b=.frz e u-> ∃d,u=.ext d:=by obtain⟨l,f⟩:=List.getElem?_of_mem h;obtain⟨o,_,q⟩:=w.of f;exact q.there
def Wd.newx(w:Wd g α S H)(hp:H p=none):Ext α H α (jL H p o) where
 pre:=⟨[],by simp⟩
 new:=λb h=>.inl h
 keep:=λb o h _=>by rw[zP (zX h hp)];exact h
 has:=λb o h=>⟨o,by rw[zP (zX h hp)];exact h⟩
 tup:=λb o h=>by rw[zP (zX h hp)];exact h
 frz:=λb o u h=>by rw[zP (zX h hp)];exact h
def Wd.fresh(w:Wd g α S H)(a:H p=none):p∉α:=λz=>by obtain⟨_,h,_⟩:=w.mem z;rw[a]at h;cases h
def Wd.new(w:Wd g α S H)(b:H p=none):Wd g α S (jL H p o):=
 ⟨w.len,w.nd,λl a e d f=>(w.obj l a e d f).move (w.newx b).toEx0 (zP λz=>w.fresh b (by rw[<-z];exact ô d))⟩
def O4(h:H a=some ho)(n: ∀b u,ho≠.frz b u:=by intro _ _ z;cases z): ∀b u,H a≠some (.frz b u):=λb u z=>n b u (å (h.symm.trans z))
def Wd.writex(w:Wd g α S H){l:Nat}(h:α[l]? =some a)(nf: ∀ob u,H a≠some (.frz ob u)):Ext α H α (jL H a o) where
 pre:=⟨[],by simp⟩
 new:=λb h=>.inl h
 keep:=λb o e n=>by rw[zP λz=>n (by rw[z];exact ô h)];exact e
 has:=λb o e=>by
  by_cases z:b=a
  .subst z;exact⟨_,zV⟩
  .exact⟨o,by rw[zP z];exact e⟩
 tup:=λb xs e=>by obtain⟨ho,h1,h2,_⟩:=w.mem (ô h);rw[zP λz=>h2 xs (by subst z;rw[e]at h1;exact(å h1).symm)];exact e
 frz:=λb ob u e=>by rw[zP λz=>nf ob u (by rw[<-z];exact e)];exact e
def Wd.ne(w:Wd g α S H){l:Nat}(h:α[l]? =some a)(h':α[m]? =some b)(n:l≠m):a≠b:=by rintro rfl;obtain⟨f,d⟩:=gS.mp h;obtain⟨i,e⟩:=gS.mp h';exact n ((getElem_inj w.nd).mp (d.trans e.symm))
def Wd.write(w:Wd g α S H)(h:α[l]? =some a)(nf: ∀ob u,H a≠some (.frz ob u))(q:ObD g α (jL H a o) a ob):Wd g α (S.set l ob) (jL H a o) where
 len:=by rw[Ą];exact w.len
 nd:=w.nd
 obj:=λm b ob' h1 h2=>by
  by_cases e:l=m
  .subst e;rw[h]at h1;have hl:l<S.length:=by rw[<-w.len];exact(gS.mp h).1
   rw[Ċ hl]at h2;rw[<-å h1, <-å h2];exact q
  .rw[Ā e]at h2;exact(w.obj m b ob' h1 h2).move (w.writex h nf).toEx0 (zP (w.ne h1 h λz=>e z.symm))
def Wd.enterx(w:Wd g α S H)(x:Ext α0 H0 α H)(h0:H0 b=none)(n:b∉α):Ext α0 H0 (α++[b]) H where
 pre:=let ⟨t,e⟩:=x.pre;⟨_,by rw[e,aA]⟩
 new:=λc hc=>(ê.mp hc).elim (x.new c) λz=>.inr (by rw[mS0.mp z];exact h0)
 keep:=x.keep
 has:=x.has
 tup:=x.tup
 frz:=x.frz
theorem Wd.enter(w:Wd g α S H)(h:H b=some (.lst vs))(n:b∉α)(l:DenL g.K α H ds vs):Wd g (α++[b]) (S++[.lst ds]) H where
 len:=by rw[lA,lA,w.len];rfl
 nd:=List.nodup_append.mpr ⟨w.nd,by simp,λa ha c hc=>by rw[mS0.mp hc];rintro rfl;exact n ha⟩
 obj:=λm a o h1 h2=>by
  by_cases hm:m<α.length
  .rw[á hm]at h1;rw[á (by rw[<-w.len];exact hm)]at h2;exact(w.obj m a o h1 h2).move (Ex0.grow α [b] H) rfl
  .have hm':m=α.length:=by
    have:=(gS.mp h1).1;rw[lA,lS]at this
    lia
   subst hm';rw[â (à _),sub_self]at h1;rw[â (by rw[w.len];exact à _),w.len,sub_self]at h2;cases h1;cases h2;exact⟨vs,h,l.ex0 (Ex0.grow α [b] H)⟩
end
inductive R(β:Type) where
 |ok (b:β) (S:Sto)|exc (c:Str) (fs:List (Str×MV)) (S:Sto)|no
def R.bind:R β->(β->Sto->R γ)->R γ
 |.ok b S,k=>k b S
 |.exc c fs S,_=>.exc c fs S
 |.no,_=>.no
theorem R.bind_ok(b)(S)(k:β->Sto->R γ):(R.ok b S).bind k=k b S:=rfl
inductive Er where
 |val (d:MV)|new (ds:R0)
instance:Inhabited Er:=⟨.val .non⟩
def DenX(K:P0)(α:B9)(H:Hp):Er->V->Prop
 |.val d,v=>Den K α H d v
 |.new ds,v=> ∃b a,v=.ref b/\H b=some (.lst a)/\b∉α/\DenL K α H ds a
def DenE(K:P0)(H:Hp)(α':B9)(H':Hp)(r:Er)(v:V):Prop:=DenX K α' H' r v/\match r with |.new _=> ∀a,v=.ref a->H a=none|_=>True
section
variable{K:P0}
def DenX.ext(x:Ext α H α' H'): ∀{r}{v},DenX K α H r v->DenX K α' H' r v
 |.val d,_,q=>Den.ext x q
 |.new ds,_,⟨b,vs,e,h,n,l⟩=>⟨b,vs,e,x.keep b _ h n,x.out h n,l.ext x⟩
def DenE.val(q:Den K α' H' d v):DenE K H α' H' (.val d) v:=⟨q,trivial⟩
def DenE.back(d: ∀b,H b=none->H0 b=none)(q:DenE K H α' H' r v):DenE K H0 α' H' r v:=by
 refine⟨q.1,?_⟩
 cases r with
 |new ds=>exact λa e=>d a (q.2 a e)
 |_=>trivial
def DenE.ext(x:Ext α' H' α'' H'')(q:DenE K H α' H' r v):DenE K H α'' H'' r v:=⟨q.1.ext x,q.2⟩
end
section
variable{K:P0}
def sG(d:DenX K α H (.val .non) v):v=.non:=iW (K:=K) (α:=α) (H:=H) d
def uO(d:DenX K α H (.val (.bl b)) v):v=.bl b:=rK (K:=K) (α:=α) (H:=H) d
def xT(d:DenX K α H (.val (.int b)) v):v=.int b:=jS (K:=K) (α:=α) (H:=H) d
def wA(d:DenX K α H (.val (.str b)) v):v=.str (yZ b):=kM (K:=K) (α:=α) (H:=H) d
def Lv(d:DenX K α H (.val (.typ b)) v):v=.ty b:=eV (K:=K) (α:=α) (H:=H) d
def Zp(d:DenX K α H (.val (.obj c ns ds)) v): ∃a C e b o,v=.ref a/\H a=some (.frz o (.ins C e (ns.zip b)))/\PySem.W.nsIn K mainGlobals c=some (some (.ref C))/\(PySem.W.clsIn K C).map (·.name)=some c/\ns.length=b.length/\DenL K α H ds b:=eU d
def nQ(d:DenX K α H (.val (.tup ds)) v): ∃a b,v=.ref a/\SqT K H a b/\DenL K α H ds b:=jD d
def OG(d:DenX K α H (.val (.scr ds)) v): ∃a b,v=.ref a/\SqF K H a b/\DenL K α H ds b:=eW d
def pF(d:DenX K α H (.val (.loc l)) v): ∃a,v=.ref a/\α[l]? =some a:=nP (K:=K) (H:=H) d
end
noncomputable def LH:List Er->List V->List Addr
 |.new _::rs,.ref b::vs=>b::LH rs vs
 |_::rs,_::vs=>LH rs vs
 |_,_=>[]
inductive ArgsE(K:P0)(H:Hp)(α':B9)(H':Hp):List Er->List V->Prop
 |nil:ArgsE K H α' H' [] []
 |cons {r v rs vs}:DenE K H α' H' r v->(∀ds b,r=.new ds->v=.ref b->b∉LH rs vs)->ArgsE K H α' H' rs vs->ArgsE K H α' H' (r::rs) (v::vs)
theorem ArgsE.nones{K:P0}: ∀{rs e},ArgsE K H α' H' rs e-> ∀b∈LH rs e,H b=none
 |_,_,.nil=>λb h=>by simp[LH]at h
 |.val d::_,v::_,.cons a n l=>λb h=>ArgsE.nones l b (by simpa [LH]using h)
 |.new ds::_,v::_,.cons a n l=>λb h=>by
  obtain⟨c,e,rfl,_⟩:=a.1;rcases mC.mp h with rfl|h
  .exact a.2 _ rfl
  .exact ArgsE.nones l b h
theorem ArgsE.ext{K:P0}(x:Ext α' H' α'' H''): ∀{rs b},ArgsE K H α' H' rs b->ArgsE K H α'' H'' rs b
 |_,_,.nil=>.nil
 |_,_,.cons a n l=>.cons (a.ext x) n (ArgsE.ext x l)
theorem ArgsE.back{K:P0}(d: ∀b,H b=none->H0 b=none): ∀{rs e},ArgsE K H α' H' rs e->ArgsE K H0 α' H' rs e
 |_,_,.nil=>.nil
 |_,_,.cons a n l=>.cons (a.back d) n (ArgsE.back d l)
theorem ArgsE.length{K:P0}: ∀{rs a},ArgsE K H α' H' rs a->a.length=rs.length
 |_,_,.nil=>rfl
 |_,_,.cons _ _ l=>by rw[lC0,lC0,ArgsE.length l]
class Dn (β:Type) (τ:outParam Type) where
 d:Gm->Hp->List Addr->Sto->Hp->β->τ->Prop
 back: ∀{g:Gm}{H H0:Hp}{α':B9}{S':Sto}{H':Hp}{b:β}{u:τ},(∀b,H b=none->H0 b=none)->d g H α' S' H' b u->d g H0 α' S' H' b u
instance:Dn Er V:=⟨λg H α' _ H' r v=>DenE g.K H α' H' r v,λa q=>q.back a⟩
instance:Dn Bool Bool:=⟨λ_ _ _ _ _ b u=>u=b,λ_ q=>q⟩
instance:Dn (List Er) (List V):=⟨λg H α' _ H' r v=>ArgsE g.K H α' H' r v,λa q=>q.back a⟩
instance:Dn (Option Int) (Option Int):=⟨λ_ _ _ _ _ b u=>u=b,λ_ q=>q⟩
abbrev XW:=Str->List (Str×MV)->Sto->List Addr->Hp->Prop
abbrev W0:XW:=λ_ _ _ _ _=>False
def Post[Dn β τ](g:Gm)(W:XW)(α:B9)(H:Hp):R β->(τ->Hp->Prop)->Prop
 |.ok b S,Q=> ∀u α' H',Ext α H α' H'->Wd g α' S H'->Dn.d g H α' S H' b u->Q u H'
 |.exc c fs S,_=> ∀α' H',Ext α H α' H'->Wd g α' S H'->W c fs S α' H'
 |.no,_=>False
section
variable[Dn β τ][Dn γ υ]
def Post.shift(x:Ext α H α' H'): ∀{m:R β}{Q},Post g W α H m Q->Post g W α' H' m Q
 |.ok b S,Q,q=>λu a f d e i=>q u a f (x.trans d) e (Dn.back (λb h=>x.free h) i)
 |.exc c fs S,_,q=>λa f d e=>q a f (x.trans d) e
 |.no,_,q=>q
def Post.bind{k:β->Sto->R γ}(q:Post g W α H (m.bind k) Q)
  (f: ∀u b h a e,m=.ok b h->Ext α H a e->Wd g a h e->Dn.d g H a h e b u->Post g W α H (k b h) Q->Q' u e):Post g W α H m Q':=by
 cases m with
 |ok b S=>exact λu a e x w d=>f u b S a e rfl x w d q
 |exc c fs S=>exact q
 |no=>exact q
def Post.here{b:β}(q:Post g W α H (.ok b S) Q)(w:Wd g α S H)(d:Dn.d g H α S H b u):Q u H:=q u α H (Ext.refl α H) w d
end
def Post.val(q:Post g W α H (.ok (Er.val d) S) Q)(w:Wd g α S H)(k:Den g.K α H d v):Q v H:=q.here w (DenE.val k)
def Post.newl(q:Post g W α H (.ok (Er.new ds) S) Q)(w:Wd g α S H)(b:H p=none)(l:DenL g.K α H ds vs):Q (.ref p) (jL H p (.lst vs)):=
 q _ α _ (w.newx b) (w.new b) ⟨⟨p,vs,rfl,zV,w.fresh b,l.ext (w.newx b)⟩,λa e=>by cases e;exact b⟩
def Post.newt(q:Post g W α H (.ok (Er.val (.tup ds)) S) Q)(w:Wd g α S H)(a:H p=none)(l:DenL g.K α H ds vs):Q (.ref p) (jL H p (.tup vs)):=
 q _ α _ (w.newx a) (w.new a) (.val (rH (.of zV) (l.ext (w.newx a))))
abbrev Rho:=List (Option MV)
structure Slots(K:P0)(α:B9)(H:Hp)(ρ:Rho)(σ:St):Prop where
 len:σ.length=ρ.length
 slot: ∀(i:Nat)(d:MV),ρ[i]? =some (some d)-> ∃v,σ[i]? =some (some v)/\Den K α H d v
section
variable{K:P0}
def Slots.ex0(q:Slots K α H ρ σ)(x:Ex0 α H α' H'):Slots K α' H' ρ σ:=⟨q.len,λi d e=>let ⟨v,a,b⟩:=q.slot i d e;⟨v,a,b.ex0 x⟩⟩
def Slots.ext(q:Slots K α H ρ σ)(x:Ext α H α' H'):Slots K α' H' ρ σ:=q.ex0 x.toEx0
theorem En{α:Type}{l:List α}{x y:α}(h:(l.set i x)[j]? =some y):(j=i/\y=x/\i<l.length)\/(j≠i/\l[j]? =some y):=by
 by_cases a:i=j
 .subst a;by_cases b:i<l.length
  .rw[Ċ b]at h;exact .inl ⟨rfl,(å h).symm,b⟩
  .rw[List.getElem?_eq_none (by rw[Ą];lia)]at h;cases h
 .rw[Ā a]at h;exact .inr ⟨λz=>a z.symm,h⟩
def Slots.set(q:Slots K α H ρ σ)(h:Den K α H d v):Slots K α H (ρ.set i (some d)) (σ.set i (some v)):=by
 refine⟨by rw[Ą,Ą];exact q.len,λj e z=>?_⟩;rcases En z with⟨rfl,e',hl⟩|⟨hj,e'⟩
 .cases e';exact⟨v,by rw[Ċ (by rw[q.len];exact hl)],h⟩
 .obtain⟨u,a,b⟩:=q.slot j e e';exact⟨u,by rw[Ā (Ne.symm hj)];exact a,b⟩
end
def Jd(X:Cx)(W:XW)[Dn β τ](P:(St->Hp->(τ->Hp->Prop)->Prop)->Prop)(f:Rho->Sto->R β):Prop:=
 ∃t,P t/\ ∀α a S σ H Q,Wd X.g α S H->Slots X.K α H a σ->Post X.g W α H (f a S) Q->t σ H Q
abbrev yF(X:Cx)(W:XW)(e:Expr)(f:Rho->Sto->R Er):Prop:=Jd X W (PE X e) f
abbrev MS(X:Cx)(W:XW)(e:Expr)(f:Rho->Sto->R Bool):Prop:=Jd X W (PT X e) f
abbrev Zq(X:Cx)(W:XW)(e:Expr)(f:Rho->Sto->R Bool):Prop:=Jd X W (PW X e) f
abbrev IW(X:Cx)(W:XW)(es:O0)(f:Rho->Sto->R (List Er)):Prop:=Jd X W (PA X es) f
abbrev Ws(X:Cx)(W:XW)(e:Option Expr)(f:Rho->Sto->R (Option Int)):Prop:=Jd X W (PO X e) f
section
variable{X:Cx}{W:XW}{b c:Expr}{f g h:Rho->Sto->R Er}{pos:Pos}
noncomputable def Sk:Option (Option MV)->Sto->R Er
 |some (some d),S=>.ok (.val d) S
 |_,_=>.no
def zB(i:Nat)(j:X.N[i]? =some x:=by rfl)(hv:Rh X.env.scope x:=by first |exact Or.inl rfl|exact Or.inr (Or.inl rfl)|exact Or.inr (Or.inr rfl))(h:(x==("__debug__"))=false:=by decide)
  (hcd:(x==("__classdict__"))=false:=by decide):yF X W (.Name x pos) (λa S=>Sk (a[i]?) S):=by
 refine⟨_,pv i j hv h hcd,λα a S σ H Q wd e q=>?_⟩;dsimp only at q
 cases z:a[i]? with
 |none=>rw[z]at q;exact q.elim
 |some o=>
  cases o with
  |none=>rw[z]at q;exact q.elim
  |some d=>
   rw[z]at q;obtain⟨v,b,f⟩:=e.slot i d z;exact⟨v,b,Post.val q wd f⟩
def zE:yF X W (.Constant (.int i) j pos) (λ_ S=>.ok (.val (.int i)) S):=⟨_,Bh,λα b S σ H Q wd a q=>Post.val q wd (xD i)⟩
def oA:yF X W (.Constant (.bool i) j pos) (λ_ S=>.ok (.val (.bl i)) S):=⟨_,Q2,λα b S σ H Q wd a q=>Post.val q wd (wN i)⟩
def iY:yF X W (.Constant .none j pos) (λ_ S=>.ok (.val .non) S):=⟨_,Yd,λα b S σ H Q wd a q=>Post.val q wd rG⟩
def zK(cs)(a:x=yZ cs:=by rfl):yF X W (.Constant (.str x) j pos) (λ_ S=>.ok (.val (.str cs)) S):=
 ⟨_,Kp,λα d S σ H Q wd b q=>Post.val q wd (by rw[a];exact gT cs)⟩
def MT(b:Gl X x)(hm:X.mg x=some (.int i t))(a:(x==("__debug__"))=false:=by decide):yF X W (.Name x pos) (λ_ S=>.ok (.val (.int i)) S):=
 ⟨_,UD (v:=.int i) b hm ⟨t,rfl⟩ a,λα e S σ H Q wd d q=>Post.val q wd (xD i)⟩
def Sl(b:Gl X x)(hm:X.mg x=some (.str (yZ y) t))(a:(x==("__debug__"))=false:=by decide):yF X W (.Name x pos) (λ_ S=>.ok (.val (.str y)) S):=
 ⟨_,UD (v:=.str (yZ y)) b hm ⟨t,rfl⟩ a,λα e S σ H Q wd d q=>Post.val q wd (gT y)⟩
def nR(b:Gl X x)(hm:X.mg x=none)(hv:bootBuiltins x=some (.type T))(d:x≠"__name__":=by decide)(a:(x==("__debug__"))=false:=by decide):yF X W (.Name x pos) (λ_ S=>.ok (.val (.typ T)) S):=
 ⟨_,Eb (v:=.ty T) b hm hv rfl d a,λα f S σ H Q wd e q=>Post.val q wd (El T)⟩
def Lw:yF X W (.UnaryOp .USub (.Constant (.int i) j p3) pos) (λ_ S=>.ok (.val (.int (-i))) S):=
 ⟨_,Wl Kw Bh,λα b S σ H Q wd a q=>⟨i,rfl,Post.val q wd (xD (-i))⟩⟩
def QQ(X:Cx)(W:XW)(r:R2)(F:Er->Er->Sto->R Er):Prop:= ∀p q x y α S H Q,Wd X.g α S H->DenX X.K α H p x->DenX X.K α H q y->Post X.g W α H (F p q S) Q->r x y H Q
def two(s:QQ X W r F){o n:TE}(t: ∀α a S σ H Q,Wd X.g α S H->Slots X.K α H a σ->Post X.g W α H (f a S) Q->o σ H Q)
  (fb: ∀α a S σ H Q,Wd X.g α S H->Slots X.K α H a σ->Post X.g W α H (g a S) Q->n σ H Q)       (wd:Wd X.g α S H) (sl:Slots X.K α H a σ)
  (q:Post X.g W α H ((f a S).bind λp d=>(g a d).bind λq b=>F p q b) Q):o σ H λx e=>n σ e λy j=>r x y j Q:=
 t α a S σ H _ wd sl (q.bind λu p d i e E m C v D=>fb i a d σ e _ C (sl.ext m) ((D.shift m).bind λw p2 b h j G k B A z=>
  s p p2 u w h b j Q B (v.1.ext k) A.1 (z.shift k)))
def SK(n:OpR X (binaryOp op) r)(k:QQ X W r F)(h:yF X W a f)(e:yF X W b g):yF X W (.BinOp a op b pos) (λd S=>(f d S).bind λp o=>(g d o).bind λq m=>F p q m):=by obtain⟨u,h,s⟩:=h;obtain⟨t,e,i⟩:=e;exact⟨_,R8 n h e,λα d S σ H Q wd j q=>two k s i wd j q⟩
def JF(n:OpR X (compareOp op) r)(k:QQ X W r F)(h:yF X W a f)(e:yF X W b g)(hm:behindInMarks op b=false:=by first |exact Kz _|with_unfolding_all rfl):
  yF X W (.Compare a [op] [b] pos) (λd S=>(f d S).bind λp o=>(g d o).bind λq m=>F p q m):=by
 obtain⟨u,h,s⟩:=h;obtain⟨t,e,i⟩:=e;exact⟨_,Rq n h e hm,λα d S σ H Q wd j q=>two k s i wd j q⟩
def V1(n:IxR X r)(k:QQ X W r F)(h:yF X W a f)(e:yF X W b g)(hs:UJ b:=by exact λ_ _=>rfl):
  yF X W (.Subscript a b pos) (λd S=>(f d S).bind λp o=>(g d o).bind λq m=>F p q m):=by
 obtain⟨u,h,s⟩:=h;obtain⟨t,e,i⟩:=e;exact⟨_,T6 n h e hs,λα d S σ H Q wd j q=>two k s i wd j q⟩
noncomputable def bC:Er->Sto->R Bool
 |.val (.bl b),S=>.ok b S
 |_,_=>.no
def YN(q:Post X.g W α H (bC p S) Q): ∃k,p=.val (.bl k)/\Post X.g W α H (.ok k S) Q:=by
 unfold bC at q;split at q
 .exact⟨_,rfl,q⟩
 .exact q.elim
def HQ[Dn β τ]{k:Bool->Sto->R β}(q:Post X.g W α H ((bC p S).bind k) Q): ∃c,p=.val (.bl c)/\Post X.g W α H (k c S) Q:=by
 unfold bC at q;split at q
 .exact⟨_,rfl,q⟩
 .exact q.elim
def BS(w:OpR X (compareOp op) r)(n:QQ X W r F)(h:yF X W a f)(e:yF X W b g)(hm:behindInMarks op b=false:=by first |exact Kz _|with_unfolding_all rfl):
  MS X W (.Compare a [op] [b] pos) (λd S=>((f d S).bind λp i=>(g d i).bind λq v=>F p q v).bind bC):=by
 obtain⟨G,h,o⟩:=h;obtain⟨D,e,j⟩:=e;refine⟨_,Rr w h e hm,λα d S σ H Q wd m q=>?_⟩;refine two n o j wd m (q.bind λu p i B E C y A s z=>?_);obtain⟨k,rfl,t⟩:=YN (z.shift y);exact⟨k,uO s.1,t.here A rfl⟩
def JG(F G:Er->Er->Sto->R Er)(p q:Er)(S:Sto)(k:Sto->R Er):R Er:=(F p q S).bind λz b=>(bC z b).bind λc a=>if c=true then(k a).bind λr d=>G q r d else .ok (.val (.bl false)) a
def chain(T:QQ X W r F)(M:QQ X W r' G)(fa: ∀α a S σ H Q,Wd X.g α S H->Slots X.K α H a σ->Post X.g W α H (f a S) Q->ta σ H Q)
  (fb: ∀α a S σ H Q,Wd X.g α S H->Slots X.K α H a σ->Post X.g W α H (g a S) Q->tb σ H Q) (fc: ∀α a S σ H Q,Wd X.g α S H->Slots X.K α H a σ->Post X.g W α H (h a S) Q->tc σ H Q)       (wd:Wd X.g α S H) (sl:Slots X.K α H a σ)
  (q:Post X.g W α H ((f a S).bind λp i=>(g a i).bind λq s=>JG F G p q s λo=>h a o) Q):Bj r r' ta tb tc σ H Q:=
 fa α a S σ H _ wd sl (q.bind λu p i v H1 e1 j w1 U N=>fb v a i σ H1 _ w1 (sl.ext j) ((N.shift j).bind λy p2 s d O e2 t Z z J=>by
  refine T p p2 u y d s O _ Z (U.1.ext t) z.1 (Post.bind (J.shift t) λu3 p3 o e Y e3 n A C B=>?_);obtain⟨k,rfl,b⟩:=HQ (B.shift n);refine⟨k,uO C.1,?_⟩
  cases k with
  |true=>
   rw[iP rfl]at b ⊢;exact fc e a o σ Y _ A (((sl.ext j).ext t).ext n) (b.bind λL P E m H5 e5 w w5 I D=>M p2 P y L m E H5 Q w5 ((z.1.ext n).ext w) I.1 (D.shift w))
  |false=>
   rw[iN0 xF0]at b ⊢;exact Post.val b A (wN false)))
def OH(u:OpR X (compareOp op) r)(i:OpR X (compareOp op') r')(o:QQ X W r F)(w:QQ X W r' G)(k:yF X W a f)(j:yF X W b g)(e:yF X W c h)
  (hm:lastMarks [op,op'] [b,c]=false:=by with_unfolding_all rfl):
  yF X W (.Compare a [op,op'] [b,c] pos) (λd S=>(f d S).bind λp v=>(g d v).bind λq t=>JG F G p q t λs=>h d s):=by
 obtain⟨C,k,z⟩:=k;obtain⟨B,j,m⟩:=j;obtain⟨A,e,y⟩:=e;exact⟨_,La u i k j e hm,λα d S σ H Q wd n q=>chain o w z m y wd n q⟩
def OI(E:OpR X (compareOp op) r)(i:OpR X (compareOp op') r')(A:QQ X W r F)(t:QQ X W r' G)(m:yF X W a f)(j:yF X W b g)(e:yF X W c h)
  (hm:lastMarks [op,op'] [b,c]=false:=by with_unfolding_all rfl):
  MS X W (.Compare a [op,op'] [b,c] pos) (λd S=>((f d S).bind λp n=>(g d n).bind λq D=>JG F G p q D λC=>h d C).bind bC):=by
 obtain⟨P,m,I⟩:=m;obtain⟨N,j,y⟩:=j;obtain⟨M,e,v⟩:=e;refine⟨_,Lb E i m j e hm,λα d S σ H Q wd z q=>?_⟩;refine chain A t I y v wd z (Q:=λx H'=> ∃k,x=.bl k/\Q k H') (q.bind λu p n K O L s J B w=>?_);obtain⟨k,rfl,o⟩:=YN (w.shift s);exact⟨k,uO B.1,o.here J rfl⟩
noncomputable def gD:Er->Sto->R Bool
 |.val .non,S=>.ok false S
 |.val (.bl b),S=>.ok b S
 |.val (.int i),S=>.ok (i !=0) S
 |.val (.str x),S=>if x.length<=sizeLine then .ok (!x.isEmpty) S else .no
 |.val (.tup ds),S=>.ok (!ds.isEmpty) S
 |.val (.scr ds),S=>.ok (!ds.isEmpty) S
 |.val (.loc l),S=>match S[l]? with
  |some (.lst ds)=>.ok (!ds.isEmpty) S
  |_=>.no
 |.val (.typ _),_=>.no
 |.val (.obj _ _ _),_=>.no
 |.new ds,S=>.ok (!ds.isEmpty) S
def EG{K:P0}(l:DenL K α H ds vs):(!vs.isEmpty)= !ds.isEmpty:=by have:=l.length;cases ds<;>cases vs<;>simp_all
theorem Lx(wd:Wd X.g α S H)(d:DenX X.K α H p x)(q:Post X.g W α H (gD p S) Q): ∃k,Yw X.K x H k/\Q k H:=by
 match p,d,q with
 |.val .non,d,q=>cases sG d;exact⟨_,rfl,q.here wd rfl⟩
 |.val (.bl b),d,q=>cases uO d;exact⟨_,rfl,q.here wd rfl⟩
 |.val (.int i),d,q=>cases xT d;exact⟨_,rfl,q.here wd rfl⟩
 |.val (.typ n),d,q=>exact q.elim
 |.val (.obj _ _ _),d,q=>exact q.elim
 |.val (.str z),d,q=>
  cases wA d;have e:Post X.g W α H (if z.length<=sizeLine then R.ok _ S else R.no) Q:=q;split at e
  .rename_i u;refine⟨_,⟨by rw[wD];exact u,?_⟩,e.here wd rfl⟩;rw[wD]
   cases z with
   |nil=>rfl
   |cons c r=>
    have j:((r.length:Int)+1)≠0:=by lia
    simp[j]
  .exact e.elim
 |.val (.tup ds),d,q=>
  obtain⟨a,f,rfl,s,l⟩:=nQ d;exact⟨_,.inr (.inl ⟨f,s,(EG l).symm⟩),q.here wd rfl⟩
 |.val (.scr ds),d,q=>
  obtain⟨a,f,rfl,s,l⟩:=OG d;exact⟨_,.inl ⟨f,s.l,(EG l).symm⟩,q.here wd rfl⟩
 |.val (.loc n),d,q=>
  obtain⟨a,rfl,h⟩:=pF d;obtain⟨o,m,t⟩:=wd.of h;have e:Post X.g W α H (match S[n]? with |some (.lst ds)=>R.ok _ S|_=>R.no) Q:=q;rw[m]at e
  cases o with
  |lst ds=>
   obtain⟨f,v,l⟩:=t;exact⟨_,.inl ⟨f,.of v,(EG l).symm⟩,e.here wd rfl⟩
  |dic ds=>exact e.elim
  |ins c fs=>exact e.elim
  |rcd c fs=>exact e.elim
  |fdc _=>exact e.elim
 |.new ds,⟨a,f,ex,s,n,l⟩,q=>subst ex;exact⟨_,.inl ⟨f,.of s,(EG l).symm⟩,q.here wd rfl⟩
def zY(e:yF X W a f)(k: ∀b,isTrue a X.env b=(do let v <-b;standAt a.pos;holding [v] (truthy v)):=by intro _;rfl):MS X W a (λd S=>(f d S).bind gD):=by obtain⟨y,e,i⟩:=e;exact⟨_,Lc e k,λα d S σ H Q wd h q=>i α d S σ H _ wd h (q.bind λu p t r w s m o j n=>Lx o j.1 (n.shift m))⟩
end
section
variable{c:Expr}{h:Rho->Sto->R Er}
def QR(p:Er)(S:Sto)(k:Sto->R Er):R Er:=(bC p S).bind λc a=>if c=true then k a else .ok (.val (.bl false)) a
def orF(p:Er)(S:Sto)(k:Sto->R Er):R Er:=(bC p S).bind λc a=>if c=true then .ok (.val (.bl true)) a else k a
def iZ(b:yF X W a f):yF X W (.BoolOp op [a] pos) f:=let ⟨t,h,k⟩:=b;⟨t,Yh h,k⟩
def lB(j:yF X W a f)(i:yF X W (.BoolOp .And (b::es) pos) g):yF X W (.BoolOp .And (a::b::es) pos) (λd S=>(f d S).bind λp h=>QR p h λw=>g d w):=by
 obtain⟨C,j,t⟩:=j;obtain⟨B,i,s⟩:=i;refine⟨_,Yi j i,λα d S σ H Q wd n q=>t α d S σ H _ wd n (q.bind λu p h m z A o r v y=>?_)⟩;obtain⟨k,rfl,e⟩:=HQ (y.shift o);refine⟨k,uO v.1,?_⟩
 cases k with
 |true=>rw[iP rfl]at e ⊢; exact s m d h σ z _ r (n.ext o) e
 |false=>rw[iN0 xF0]at e ⊢; exact Post.val e r (wN false)
def Wt(j:yF X W a f)(i:yF X W (.BoolOp .Or (b::es) pos) g):yF X W (.BoolOp .Or (a::b::es) pos) (λd S=>(f d S).bind λp h=>orF p h λw=>g d w):=by
 obtain⟨C,j,t⟩:=j;obtain⟨B,i,s⟩:=i;refine⟨_,Q7 j i,λα d S σ H Q wd n q=>t α d S σ H _ wd n (q.bind λu p h m z A o r v y=>?_)⟩;obtain⟨k,rfl,e⟩:=HQ (y.shift o);refine⟨k,uO v.1,?_⟩
 cases k with
 |true=>rw[iP rfl]at e ⊢; exact Post.val e r (wN true)
 |false=>rw[iN0 xF0]at e ⊢; exact s m d h σ z _ r (n.ext o) e
def Bx(d:yF X W a f):yF X W (.UnaryOp .Not a pos) (λb S=>(f b S).bind λp e=>(bC p e).bind λk m=>.ok (.val (.bl !k)) m):=by obtain⟨y,d,r⟩:=d;refine⟨_,Yj d,λα b S σ H Q wd h q=>r α b S σ H _ wd h (q.bind λu p e t w v n s i o=>?_)⟩;obtain⟨k,rfl,j⟩:=HQ (o.shift n);exact⟨k,uO i.1,Post.val j s (wN _)⟩
def V2(n:MS X W c tf)(r:yF X W a f)(o:yF X W b g):yF X W (.IfExp c a b pos) (λd S=>(tf d S).bind λk e=>if k=true then f d e else g d e):=by
 obtain⟨B,n,z⟩:=n;obtain⟨D,r,w⟩:=r;obtain⟨C,o,v⟩:=o;refine⟨_,Kq n r o,λα d S σ H Q wd m q=>z α d S σ H _ wd m (q.bind λu p e h s A i t y j=>?_)⟩;cases y
 cases u with
 |true=>rw[iP rfl]at j ⊢; exact w h d e σ s _ t (m.ext i) (j.shift i)
 |false=>rw[iN0 xF0]at j ⊢; exact v h d e σ s _ t (m.ext i) (j.shift i)
def UU(b:MS X W a tf):Zq X W (.BoolOp .And [a] pos) tf:=let ⟨t,h,k⟩:=b;⟨t,Ri h,k⟩
def lE(b:MS X W a tf):Zq X W (.BoolOp .Or [a] pos) tf:=let ⟨t,h,k⟩:=b;⟨t,Ye h,k⟩
theorem By(j:MS X W a tf)(i:Zq X W (.BoolOp .And (b::es) pos) tg):Zq X W (.BoolOp .And (a::b::es) pos) (λd S=>(tf d S).bind λk e=>if k=true then tg d e else .ok false e):=by
 obtain⟨z,j,s⟩:=j;obtain⟨y,i,r⟩:=i;refine⟨_,Yf j i,λα d S σ H Q wd n q=>s α d S σ H _ wd n (q.bind λu p e m v w h o t f=>?_)⟩;cases t
 cases u with
 |true=>rw[iP rfl]at f ⊢; exact r m d e σ v _ o (n.ext h) (f.shift h)
 |false=>rw[iN0 xF0]at f ⊢; exact(f.shift h).here o rfl
def oB(j:MS X W a tf)(i:Zq X W (.BoolOp .Or (b::es) pos) tg):Zq X W (.BoolOp .Or (a::b::es) pos) (λd S=>(tf d S).bind λk e=>if k=true then .ok true e else tg d e):=by
 obtain⟨z,j,s⟩:=j;obtain⟨y,i,r⟩:=i;refine⟨_,Q3 j i,λα d S σ H Q wd n q=>s α d S σ H _ wd n (q.bind λu p e m v w h o t f=>?_)⟩;cases t
 cases u with
 |true=>rw[iP rfl]at f ⊢; exact(f.shift h).here o rfl
 |false=>rw[iN0 xF0]at f ⊢; exact r m d e σ v _ o (n.ext h) (f.shift h)
def pG(h:Zq X W a tf):MS X W a tf:=let ⟨t,h,k⟩:=h;⟨t,h.pt,k⟩
theorem wG(d:MS X W a tf):MS X W (.UnaryOp .Not a pos) (λb S=>(tf b S).bind λk e=>.ok (!k) e):=by obtain⟨t,d,m⟩:=d;refine⟨_,Yg d,λα b S σ H Q wd f q=>m α b S σ H _ wd f (q.bind λu p e o s r i n h j=>?_)⟩;cases h;exact(j.shift i).here n rfl
end
section
variable{K:P0}
noncomputable def yB:List Er->Sto->List MV×Sto
 |[],S=>([],S)
 |.val d::rs,S=>((d::(yB rs S).1),(yB rs S).2)
 |.new xs::rs,S=>((.loc S.length::(yB rs (S++[.lst xs])).1),(yB rs (S++[.lst xs])).2)
def ArgsE.grow(q:ArgsE K H0 α H rs vs)(n:b∉LH rs vs):ArgsE K H0 (α++[b]) H rs vs:=by
 induction q with
 |nil=>exact .nil
 |@cons r v rs vs a m l ih=>
  cases r with
  |val d=>exact .cons ⟨Den.ex0 (Ex0.grow α [b] H) a.1,trivial⟩ m (ih (by simpa [LH]using n))
  |new ds=>
   obtain⟨⟨c,i,rfl,f,h,k⟩,j⟩:=a;have e:=n;refine .cons ⟨⟨c,i,rfl,f,λz=>?_,k.ex0 (Ex0.grow α [b] H)⟩,j⟩ m (ih λz=>e (mO _ z));rcases ê.mp z with z|z
   .exact h z
   .exact e (by rw[mS0.mp z];exact mF0)
theorem uP: ∀{rs}{f}{α}{S},Wd g α S H->Ext α0 H0 α H->ArgsE g.K H0 α H rs f->
  ∃α',Ext α0 H0 α' H/\Ex0 α H α' H/\Wd g α' (yB rs S).2 H/\DenL g.K α' H (yB rs S).1 f
 |_,_,α,S,w,x,.nil=>⟨α,x,⟨⟨[],by simp⟩,λ_ _ h=>h,λ_ _ _ h=>h⟩,w,xB⟩
 |.val d::rs,v::f,α,S,w,x,.cons a n l=>by obtain⟨α',j,b,k,i⟩:=uP w x l;exact⟨α',j,b,k,yW (Den.ex0 b a.1) i⟩
 |.new ds::rs,v::f,α,S,w,x,.cons a n l=>by
  obtain⟨⟨c,r,rfl,p,m,q⟩,o⟩:=a;obtain⟨α',j,b,k,i⟩:=uP (w.enter p m q) (w.enterx x (o c rfl) m) (l.grow (n ds c rfl rfl));refine⟨α',j,⟨?_,b.tup,b.frz⟩,k,yW (HP (b.at ?_)) i⟩
  .obtain⟨t,e⟩:=b.pre;exact⟨_,by rw[e,aA]⟩
  .rw[<-w.len,â (à _),sub_self];rfl
theorem EH: ∀ a  S ,(yB a S).1.length=a.length
 |[],S=>rfl
 |.val d::a,S=>by show(d::(yB a S).1).length=_;rw[lC0,EH a S];rfl
 |.new ds::a,S=>by show(_::(yB a _).1).length=_;rw[lC0,EH a _];rfl
end
section
variable{b c:Expr}{g h:Rho->Sto->R Er}{pos:Pos}
def zC:IW X W [] (λ_ S=>.ok [] S):=⟨_,JB,λα b S σ H Q wd a q=>q.here wd .nil⟩
def zA(t:yF X W a f)(n:IW X W es af)(hs:q8 X a es:=by rfl):IW X W (a::es) (λi S=>(f i S).bind λp j=>(af i j).bind λps r=>.ok (p::ps) r):=by
 obtain⟨T,t,J⟩:=t;obtain⟨P,n,fr⟩:=n;refine⟨_,oP t n hs,λα i S σ H Q wd y q=>J α i S σ H _ wd y (q.bind λu p j v I L k K A C=>fr v i j σ I _ K (y.ext k) ?_)⟩;have d:Post X.g W α H _ Q:=C
 cases z:af i j with
 |ok ps r=>
  rw[z]at d;intro N e o m s w;refine d _ e o (k.trans m) s (ArgsE.cons (DenE.ext m A) (λO b D E G=>?_) (ArgsE.back (λb h=>k.free h) w));subst D E;obtain⟨⟨c,M,B,F,_⟩,_⟩:=A;cases B;have:=ArgsE.nones w _ G;rw[F]at this;cases this
 |exc c fs r=>rw[z]at d;exact λe o m s=>d e o (k.trans m) s
 |no=>rw[z]at d;exact d
def pH(rs:List Er)(S:Sto):R Er:=if rs.length<=sizeLine then .ok (.val (.tup (yB rs S).1)) (yB rs S).2 else .no
def xU(rs:List Er)(S:Sto):R Er:=if rs.length<=sizeLine then .ok (.new (yB rs S).1) (yB rs S).2 else .no
def bD(h:IW X W es af):yF X W (.Tuple es f pos) (λb S=>(af b S).bind pH):=by
 obtain⟨t,h,k⟩:=h;refine⟨_,Yy h,λα b S σ H Q wd i q=>k α b S σ H _ wd i (q.bind λC e r y B z f s d u=>?_)⟩;have a:Post X.g W α H (if e.length<=sizeLine then R.ok _ (yB e r).2 else R.no) Q:=u;split at a
 .rename_i v;obtain⟨w,n,A,o,m⟩:=uP s f d;exact⟨by rw[ArgsE.length d];exact v,λp j=>(a.shift n).newt o j m⟩
 .exact a.elim
def yQ(h:IW X W es af):yF X W (.List es pos) (λb S=>(af b S).bind xU):=by
 obtain⟨t,h,k⟩:=h;refine⟨_,Yz h,λα b S σ H Q wd f q=>k α b S σ H _ wd f (q.bind λC e o y B z r s d u=>?_)⟩;have a:Post X.g W α H (if e.length<=sizeLine then R.ok _ (yB e o).2 else R.no) Q:=u;split at a
 .rename_i v;obtain⟨w,m,A,n,j⟩:=uP s r d;exact⟨by rw[ArgsE.length d];exact v,λp i=>(a.shift m).newl n i j⟩
 .exact a.elim
inductive ArgsX(K:P0)(α:B9)(H:Hp):List Er->List V->Prop
 |nil:ArgsX K α H [] []
 |cons {r v rs vs}:DenX K α H r v->ArgsX K α H rs vs->ArgsX K α H (r::rs) (v::vs)
theorem ArgsE.x{K:P0}: ∀{rs b},ArgsE K H0 α H rs b->ArgsX K α H rs b
 |_,_,.nil=>.nil
 |_,_,.cons a _ l=>.cons a.1 (ArgsE.x l)
def AU(X:Cx)(W:XW)(r:List V->Hp->VK->Prop)(F:List Er->Sto->R Er):Prop:= ∀a b α S H Q,Wd X.g α S H->ArgsX X.K α H a b->Post X.g W α H (F a S) Q->r b H Q
def zO{id:String}{p:Pos}(m:CallR X (.builtin id) r)(h:AU X W r F)(j:Gl X x)(hm:X.mg x=none)(hv:bootBuiltins x=some (.builtin id))(b:IW X W (e::es) af)
  (hn:x≠"__name__":=by decide) (hdb:(x==("__debug__"))=false:=by decide)
  (he:q8 X e es:=by rfl) (hpl:q9 X pos es:=by rfl):yF X W (.Call (.Name x p) (e::es) [] pos) (λa S=>(af a S).bind F):=by
 obtain⟨t,b,k⟩:=b;exact⟨_,HI m j hm hv b hn hdb he hpl,λα a S σ H Q wd f q=>k α a S σ H _ wd f (q.bind λy n o d u z s w i v=>h n y d o u Q w (ArgsE.x i) (v.shift s))⟩
def yY{p:Pos}(m:CallR X (.type T) r)(h:AU X W r F)(j:Gl X x)(hm:X.mg x=none)(hv:bootBuiltins x=some (.type T))(b:IW X W (e::es) af)
  (hn:x≠"__name__":=by decide) (hdb:(x==("__debug__"))=false:=by decide)
  (he:q8 X e es:=by rfl) (hpl:q9 X pos es:=by rfl):yF X W (.Call (.Name x p) (e::es) [] pos) (λa S=>(af a S).bind F):=by
 obtain⟨t,b,k⟩:=b;exact⟨_,RV m j hm hv b hn hdb he hpl,λα a S σ H Q wd f q=>k α a S σ H _ wd f (q.bind λy n o d u z s w i v=>h n y d o u Q w (ArgsE.x i) (v.shift s))⟩
def YO(X:Cx)(W:XW)(r:V->List V->Hp->VK->Prop)(F:Er->List Er->Sto->R Er):Prop:= ∀p d x e α S b H Q a,Wd X.g α S H->Ext a b α H->DenX X.K α H p x->ArgsE X.K b α H d e->Post X.g W a b (F p d S) Q->r x e H Q
def TyM(X:Cx)(T:String)(a:Er->Sto->Bool):Prop:= ∀p x α S H,Wd X.g α S H->DenX X.K α H p x->a p S=true->tyV X.K T x H
def vI{id:String}{apos:Pos}(E:PlainAttrs T)(d:Slot T name id)(s:typeOf (.builtin id)=pure (.type "method_descriptor"))(hm:Wp X id r)(N:YO X W r F)(P:TyM X T ty)
  (y:yF X W a f) (w:IW X W (e::es) af)
  (hbase:attributeBase a name X.env (eval a X.env)=eval a X.env:=by rfl)
  (hfew:((backTo pos (starEach (e::es) X.env)).all (λx=>!x.1)&&(backToKw pos (keywordEach [] X.env)).all (λx=>x.1.isSome)
   &&decide ↑7)=true:=by rfl)
  (hline:(apos.endLine==pos.line)=true:=by rfl) (hs:q8 X e es:=by rfl) (hplain:q9 X pos es:=by rfl):
  yF X W (.Call (.Attribute a name apos) (e::es) [] pos) (λi S=>(f i S).bind λp h=>if ty p h=true then(af i h).bind λn o=>F p n o else .no):=by
 obtain⟨Y,y,M⟩:=y;obtain⟨t,w,k⟩:=w;refine⟨_,U3 E d s hm y w hbase hfew hline hs hplain,λα i S σ H Q wd A q=>M α i S σ H _ wd A (q.bind λu p h b v U z D B m=>?_)⟩;split at m
 .rename_i J;exact⟨P p u b h v D B.1 J,k b i h σ v _ D (A.ext z) ((m.shift z).bind λK n o j L Z C O I G=>N p n u K j o v L Q b O C (B.1.ext C) I G)⟩
 .exact m.elim
def yN:Ws X W none (λ_ S=>.ok none S):=⟨_,Ru,λα b S σ H Q wd a q=>q.here wd rfl⟩
noncomputable def EI:Er->Sto->R (Option Int)
 |.val (.int i),S=>.ok (some i) S
 |_,_=>.no
def yO(e:yF X W a f):Ws X W (some a) (λd S=>(f d S).bind EI):=by
 obtain⟨t,e,k⟩:=e;refine⟨_,Rv e,λα d S σ H Q wd h q=>k α d S σ H _ wd h (q.bind λu p r n s o j m i b=>?_)⟩;unfold EI at b;split at b
 .exact⟨_,xT i.1,(b.shift j).here m rfl⟩
 .exact b.elim
def Sl3(X:Cx)(W:XW)(r:V->Option Int->Option Int->Hp->VK->Prop)(F:Er->Option Int->Option Int->Sto->R Er):Prop:= ∀p lo hi x α S H Q,Wd X.g α S H->DenX X.K α H p x->Post X.g W α H (F p lo hi S) Q->r x lo hi H Q
def Ly{lo:Option Expr}(C:SlR X r)(K:Sl3 X W r F)(v:yF X W a f)(j:Ws X W lo lf)(o:Ws X W hi hf):
  yF X W (.Subscript a (.Slice lo hi none p2) pos) (λb S=>(f b S).bind λp h=>(lf b h).bind λl s=>(hf b s).bind λu n=>F p l u n):=by
 obtain⟨ta,v,U⟩:=v;obtain⟨tl,j,M⟩:=j;obtain⟨th,o,P⟩:=o
 refine⟨_,Lg C v j o,λα b S σ H Q wd k q=>U α b S σ H _ wd k (q.bind λu p h w T e1 i Z L I=>M w b h σ T _ Z (k.ext i) ((I.shift i).bind λD l s d J e2 t O G E=>
  P d b s σ J _ O ((k.ext i).ext t) ((E.shift t).bind λB m n e N e3 y Y A z=>?_)))⟩
 cases G;cases A;exact K p D B u e n N Q Y ((L.1.ext t).ext y) (z.shift y)
end
inductive Fl where
 |next (ρ:Rho)|ret (r:Er)|brk (ρ:Rho)|cont (ρ:Rho)
abbrev AX:=Rho->Sto->R Er
abbrev AY:=Rho->Sto->R Fl
abbrev AZ:=Rho->Sto->R Bool
def PostS(g:Gm)(W:XW)(α:B9)(H:Hp)(D:Ends):R Fl->Prop
 |.ok (.next ρ) S=> ∀σ α' H',Ext α H α' H'->Wd g α' S H'->Slots g.K α' H' ρ σ->D.nx σ H'
 |.ok (.ret r) S=> ∀v α' H',Ext α H α' H'->Wd g α' S H'->DenE g.K H α' H' r v->D.rt v H'
 |.ok (.brk ρ) S=> ∀σ α' H',Ext α H α' H'->Wd g α' S H'->Slots g.K α' H' ρ σ->D.bk σ H'
 |.ok (.cont ρ) S=> ∀σ α' H',Ext α H α' H'->Wd g α' S H'->Slots g.K α' H' ρ σ->D.ct σ H'
 |.exc c fs S=> ∀α' H',Ext α H α' H'->Wd g α' S H'->W c fs S α' H'
 |.no=>False
section
def PostS.shift(x:Ext α H α' H'): ∀{m},PostS g W α H D m->PostS g W α' H' D m
 |.ok (.next ρ) S,q=>λσ a f d e i=>q σ a f (x.trans d) e i
 |.ok (.ret r) S,q=>λv a f d e j=>q v a f (x.trans d) e (j.back λb h=>x.free h)
 |.ok (.brk ρ) S,q=>λσ a f d e i=>q σ a f (x.trans d) e i
 |.ok (.cont ρ) S,q=>λσ a f d e i=>q σ a f (x.trans d) e i
 |.exc c fs S,q=>λa f d e=>q a f (x.trans d) e
 |.no,q=>q
def PostS.expr[Dn β τ]{k:β->Sto->R Fl}(q:PostS g W α H D (m.bind k))
  (f: ∀u b h a e,m=.ok b h->Ext α H a e->Wd g a h e->Dn.d g H a h e b u->PostS g W α H D (k b h)->Q' u e):Post g W α H m Q':=by
 cases m with
 |ok b S=>exact λu a e x w d=>f u b S a e rfl x w d q
 |exc c fs S=>exact q
 |no=>exact q
def PostS.stmt(q:PostS g W α H D (m.bind k))
  (hn: ∀e S σ a b,m=.ok (.next e) S->Ext α H a b->Wd g a S b->Slots g.K a b e σ->PostS g W α H D (k (.next e) S)->D'.nx σ b)
  (hr: ∀r S v a b,m=.ok (.ret r) S->Ext α H a b->Wd g a S b->DenE g.K H a b r v->PostS g W α H D (k (.ret r) S)->D'.rt v b)
  (hb: ∀e S σ a b,m=.ok (.brk e) S->Ext α H a b->Wd g a S b->Slots g.K a b e σ->PostS g W α H D (k (.brk e) S)->D'.bk σ b)
  (hc: ∀e S σ a b,m=.ok (.cont e) S->Ext α H a b->Wd g a S b->Slots g.K a b e σ->PostS g W α H D (k (.cont e) S)->D'.ct σ b):PostS g W α H D' m:=by
 cases m with
 |ok fl S=>
  cases fl with
  |next e=>exact λσ a b x w s=>hn e S σ a b rfl x w s q
  |ret r=>exact λv a b x w d=>hr r S v a b rfl x w d q
  |brk e=>exact λσ a b x w s=>hb e S σ a b rfl x w s q
  |cont e=>exact λσ a b x w s=>hc e S σ a b rfl x w s q
 |exc c fs S=>exact q
 |no=>exact q
end
def Eo(X:Cx)(W:XW)(st:Stmt)(F:AY):Prop:=
 ∃t,PS X st t/\ ∀α a S σ H D,Wd X.g α S H->Slots X.K α H a σ->PostS X.g W α H D (F a S)->t D σ H
def JH(X:Cx)(W:XW)(st:List Stmt)(F:AY):Prop:=
 ∃t,PSs X st t/\ ∀α a S σ H D,Wd X.g α S H->Slots X.K α H a σ->PostS X.g W α H D (F a S)->t D σ H
noncomputable def zM(F G:AY):AY:=λb S=>(F b S).bind λd a=>match d with
 |.next ρ'=>G ρ' a
 |.ret r=>.ok (.ret r) a
 |.brk ρ'=>.ok (.brk ρ') a
 |.cont ρ'=>.ok (.cont ρ') a
section
variable{X:Cx}{W:XW}{st:Stmt}{as:List Stmt}{F:AY}{g:AX}{e c:Expr}{pos:Pos}
def zZ:JH X W [] (λa S=>.ok (.next a) S):=⟨_,Rj,λα a S σ H D wd b q=>q σ α H (Ext.refl α H) wd b⟩
def zI(h:Eo X W st F):JH X W [st] F:=let ⟨t,h,k⟩:=h;⟨t,Rk h,k⟩
def zF(m:Eo X W st F)(n:JH X W sts G):JH X W (st::sts) (zM F G):=by
 obtain⟨t,m,w⟩:=m;obtain⟨u,n,y⟩:=n;refine⟨_,Kr m n,λα s S σ H D wd o q=>w α s S σ H _ wd o (q.stmt ?_ ?_ ?_ ?_)⟩
 .intro d k b a h e f j s1 i;exact y a d k b h D j s1 (PostS.shift f i)
 .intro r k v a h e f j p i;exact i v a h f j p
 .intro d k b a h e f j s1 i;exact i b a h f j s1
 .intro d k b a h e f j s1 i;exact i b a h f j s1
def zQ(b:yF X W e f):Eo X W (.Return (some e) pos) (λa S=>(f a S).bind λr h=>.ok (.ret r) h):=by obtain⟨t,b,k⟩:=b;exact⟨_,Yk b,λα a S σ H D wd i q=>k α a S σ H _ wd i (q.expr λu r h d n e m p j o=>o u d n m p j)⟩
def oQ(b:yF X W e f)(hs:swapsWith e none pos.line X.env=pure false:=by rfl):Eo X W (.Expr e pos) (λa S=>(f a S).bind λ_ i=>.ok (.next a) i):=by obtain⟨t,b,k⟩:=b;exact⟨_,Rl b hs,λα a S σ H D wd h q=>k α a S σ H _ wd h (q.expr λu r i d m e j o p n=>n σ d m j o (h.ext j))⟩
def yI(j:MS X W c tf)(n:JH X W as F)(m:JH X W bs G):Eo X W (.If c as bs pos) (λa S=>(tf a S).bind λk b=>if k=true then F a b else G a b):=by
 obtain⟨y,j,v⟩:=j;obtain⟨A,n,s⟩:=n;obtain⟨z,m,w⟩:=m;refine⟨_,R1 j n m,λα a S σ H D wd i q=>v α a S σ H _ wd i (q.expr λu p b d o e f r t h=>?_)⟩;cases t
 cases u with
 |true=>rw[iP rfl]at h ⊢; exact s d a b σ o D r (i.ext f) (PostS.shift f h)
 |false=>rw[iN0 xF0]at h ⊢; exact w d a b σ o D r (i.ext f) (PostS.shift f h)
instance:Dn Rho St:=⟨λg _ α' _ H' a σ=>Slots g.K α' H' a σ,λ_ q=>q⟩
def Zr(X:Cx)(W:XW)(tg:Expr)(gf:MV->Rho->Sto->R Rho):Prop:=
 ∃t,PG X tg t/\ ∀α a S σ H d v Q,Wd X.g α S H->Slots X.K α H a σ->Den X.K α H d v->Post X.g W α H (gf d a S) Q->t v σ H Q
def Sm(X:Cx)(W:XW)(a:O0)(gf:List MV->Rho->Sto->R Rho):Prop:=
 ∃t,O3 X a t/\ ∀α d S σ H b e Q,Wd X.g α S H->Slots X.K α H d σ->DenL X.K α H b e->Post X.g W α H (gf b d S) Q->t e σ H Q
noncomputable def xY(i:Nat):MV->Rho->Sto->R Rho:=λd a S=>.ok (a.set i (some d)) S
def xA(i)(h:X.N.Nodup)(hi:X.N[i]? =some x:=by rfl)(e:Loc X.env.scope x:=by first |exact Or.inl rfl|exact Or.inr rfl)(f:Q0 X x:=by first |exact .inl rfl|exact .inr rfl|assumption):
  Zr X W (.Name x pos) (xY i):=⟨_,Ec h hi e f,λα j S σ H d v Q wd a b q=>Post.here q wd (a.set b)⟩
noncomputable def nB:List MV->Rho->Sto->R Rho
 |[],ρ,S=>.ok ρ S
 |_,_,_=>.no
noncomputable def yR(f:MV->Rho->Sto->R Rho)(e:List MV->Rho->Sto->R Rho):List MV->Rho->Sto->R Rho
 |d::ds,ρ,S=>(f d ρ S).bind λa b=>e ds a b
 |_,_,_=>.no
def JI:Sm X W [] nB:=⟨_,Ed,λα f S σ H a h Q wd b e q=>by
 cases a with
 |nil=>exact⟨e.isnil,Post.here q wd b⟩
 |cons d a=>exact q.elim⟩
def dE(b:Zr X W e g1)(h:Sm X W es g2)(hs:(assignEach (e::es) X.env).map (·.2)=assign e X.env::(assignEach es X.env).map (·.2):=by rfl):Sm X W (e::es) (yR g1 g2):=by
 obtain⟨D,b,k⟩:=b;obtain⟨C,h,w⟩:=h;refine⟨_,XZ b h hs,λα t S σ H f B Q wd o y q=>?_⟩
 cases f with
 |nil=>exact q.elim
 |cons d f=>
  obtain⟨v,r,rfl,a,l⟩:=y.uncons;refine⟨v,r,rfl,k α t S σ H d v _ wd o a (Post.bind q λu p m i z e j A s n=>w i p m u z f r Q A s (l.ext j) (n.shift j))⟩
noncomputable def MU(n:Nat)(a:List MV->Rho->Sto->R Rho):MV->Rho->Sto->R Rho
 |.tup ds,ρ,S=>if ds.length=n then a ds ρ S else .no
 |_,_,_=>.no
def JK{k:Nat}(i:X.calm=true)(h:Sm X W es g2)
  (hn:(assignEach es X.env).length=n:=by rfl) (hst:(assignEach es X.env).findIdx? (·.1)=none:=by rfl):Zr X W (.Tuple es k pos) (MU n g2):=by
 obtain⟨t,h,k⟩:=h;refine⟨_,Kt i h hn hst,λα f S σ H d v Q wd e j q=>?_⟩;unfold MU at q;split at q
 .split at q
  .rename_i m;obtain⟨a,b,rfl,s,l⟩:=jD j;exact⟨a,b,rfl,s,by rw[l.length];exact m,k α f S σ H _ b Q wd e l q⟩
  .exact q.elim
 .exact q.elim
noncomputable def dR(r:Er)(S:Sto):R MV:=match r with
 |.val d=>.ok d S
 |.new ds=>.ok (.loc S.length) (S++[.lst ds])
def eX{g:Gm}(w:Wd g α S H)(x:Ext α0 H0 α H)(d:DenE g.K H0 α H r v):
  ∃a e α',dR r S=.ok a e/\Ext α0 H0 α' H/\Ex0 α H α' H/\Wd g α' e H/\Den g.K α' H a v:=by
 cases r with
 |val a=>exact⟨a,S,α,rfl,x,⟨⟨[],by simp⟩,λ_ _ h=>h,λ_ _ _ h=>h⟩,w,d.1⟩
 |new ds=>
  obtain⟨⟨c,k,rfl,f,b,j⟩,i⟩:=d;exact⟨_,_,_,rfl,w.enterx x (i c rfl) b,Ex0.grow α [c] H,w.enter f b j,HP (by rw[<-w.len,â (à _),sub_self];rfl)⟩
def MC(ρ:Rho)(i:Nat)(r:Er)(S:Sto):R Fl:=(dR r S).bind λd a=>.ok (.next (ρ.set i (some d))) a
def zN(i){a:Pos}(C:X.N.Nodup)(d:yF X W e f)(hi:X.N[i]? =some x:=by rfl)(y:Loc X.env.scope x:=by first |exact Or.inl rfl|exact Or.inr rfl)
  (hs:swapsWith e (some (.Name x a)) pos.line X.env=pure false:=by rfl) (hf:Q0 X x:=by first |exact .inl rfl|exact .inr rfl|assumption):
  Eo X W (.Assign [.Name x a] e pos) (λb S=>(f b S).bind (MC b i)):=by
 obtain⟨t,d,k⟩:=d;refine⟨_,Yp C hi y d hs hf,λα b S σ H D wd j q=>k α b S σ H _ wd j (q.expr λu r F B w e m z o h=>?_)⟩;obtain⟨E,G,α',n,v,p,A,s⟩:=eX z m o;unfold MC at h;rw[n]at h;exact h _ α' w v A (((j.ext m).ex0 p).set s)
def Sn(gf:MV->Rho->Sto->R Rho)(ρ:Rho)(r:Er)(S:Sto):R Fl:=(dR r S).bind λd e=>(gf d ρ e).bind λa b=>.ok (.next a) b
def OJ(h:yF X W e f)(i:Zr X W tg gf)(hs:swapsWithSole [tg] e pos.line X.env=pure false:=by rfl)(hw:swappedStores [tg] e X.env=pure none:=by rfl)
  (h1:(assignEach [tg] X.env).map (·.2)=[assign tg X.env]:=by rfl):Eo X W (.Assign [tg] e pos) (λa S=>(f a S).bind (Sn gf a)):=by
 obtain⟨t,h,k⟩:=h;obtain⟨C,i,z⟩:=i;refine⟨_,Yo h i hs hw h1,λα a S σ H D wd o q=>k α a S σ H _ wd o (q.expr λu r Q P N e m O G b=>?_)⟩;obtain⟨p,n,α',v,A,K,B,L⟩:=eX O m G;unfold Sn at b;rw[v]at b;have b:PostS X.g W α H D ((gf p a n).bind λM s=>.ok _ s):=b;exact z α' a n σ N p u _ B ((o.ext m).ex0 K) L ((PostS.shift A b).expr λj w s d E T I J F y=>y j d E I J F)
structure Wk where
 ds:List MV
 gs:List (Nat×List MV)
def stay(gs:V0)(S:Sto):Prop:= ∀p∈gs,S[p.1]? =some (.lst p.2)
def V3(g:Gm)(J:It)(P:List Addr->Sto->Hp->Prop)(ds:R0):Prop:= ∀i α S H,P α S H->Wd g α S H->(i<ds.length->J.go i H/\ ∀x H',J.yld i H x H'->Ext α H α H'/\Wd g α S H'/\P α S H'/\ ∃d,ds[i]? =some d/\Den g.K α H' d x)/\(ds.length<=i->J.stop i H)
structure WkD(g:Gm)(α:B9)(S:Sto)(H:Hp)(k:Wk)(J:It)(P:List Addr->Sto->Hp->Prop):Prop where
 it:V3 g J P k.ds
 here:P α S H
 stays: ∀α1 S1 H1 α2 S2 H2,P α1 S1 H1->Ext α1 H1 α2 H2->Wd g α2 S2 H2->stay k.gs S2->P α2 S2 H2
 st:stay k.gs S
instance:Dn Wk It:=⟨λg _ α S H k J=> ∃P,WkD g α S H k J P,λ_ q=>q⟩
abbrev PIm(X:Cx)(W:XW)(tg iter:Expr)(f:Rho->Sto->R Wk):Prop:=Jd X W (PI X tg iter) f
variable{tg iter:Expr}
theorem HR:V3 X.g (zAB X.K a) (λα S H=> ∃b,SqL X.K H a b/\DenL X.K α H ds b) ds:=by
 intro i α S H ⟨b,s,l⟩ w;have j:=l.length;refine⟨λhi=>?_,λhi=>⟨b,s,by lia⟩⟩;have h:i<b.length:=by lia
 refine⟨⟨b,_,s,gE h⟩,λx H' y=>?_⟩;obtain⟨rfl,y⟩:=y;obtain⟨d,e,f⟩:=l.get (y b s);exact⟨Ext.refl _ _,w,⟨b,s,l⟩,d,e,f⟩
theorem Ep:V3 X.g (zAC X.K a) (λα S H=> ∃b,SqT X.K H a b/\DenL X.K α H ds b) ds:=by
 intro i α S H ⟨b,s,l⟩ w;have j:=l.length;refine⟨λhi=>?_,λhi=>⟨b,s,by lia⟩⟩;have h:i<b.length:=by lia
 refine⟨⟨b,_,s,gE h⟩,λx H' y=>?_⟩;obtain⟨rfl,y⟩:=y;obtain⟨d,e,f⟩:=l.get (y b s);exact⟨Ext.refl _ _,w,⟨b,s,l⟩,d,e,f⟩
def So:V3 X.g (U7 x) (λ_ _ _=>True) (x.map λc=>.str [c]):=by intro i α S H _ w;refine⟨λhi=>⟨show i<x.length by simpa using hi,λv H' y=>?_⟩,λhi=>by show x.length<=i;simpa using hi⟩;obtain⟨rfl,c,a,b⟩:=y;refine⟨Ext.refl _ _,w,trivial,.str [c],by rw[ü,a];rfl,?_⟩;rw[b];exact gT [c]
def Ip{lo:Int}:V3 X.g (zAD lo n) (λ_ _ _=>True) ((List.range n).map λk=>.int (lo+(k:Nat))):=by
 intro i α S H _ w;refine⟨λhi=>⟨show i<n by simpa using hi,λv H' y=>?_⟩,λhi=>by show n<=i;simpa using hi⟩;obtain⟨rfl,y⟩:=y;have a:=by simpa using hi
 refine⟨Ext.refl _ _,w,trivial,_,by rw[ü,List.getElem?_range a];rfl,?_⟩;rw[y];exact xD _
noncomputable def QS:Er->Sto->R Wk
 |.new ds,S=>.ok ⟨ds,[]⟩ S
 |.val (.scr ds),S=>.ok ⟨ds,[]⟩ S
 |.val (.loc l),S=>match S[l]? with
  |some (.lst ds)=>.ok ⟨ds,[(l,ds)]⟩ S
  |_=>.no
 |_,_=>.no
def nS:stay [] S:=λp h=>by simp at h
def bU(T:yF X W iter f):PIm X W tg iter (λZ S=>(f Z S).bind QS):=by
 obtain⟨t,T,k⟩:=T;refine⟨_,Rm T,λα Z S σ H Rc wd sl q=>k α Z S σ H _ wd sl (q.bind λu p S1 aa H1 e x1 Q Y w=>?_)⟩
 replace w:=w.shift x1
 unfold QS at w;split at w
 .rename_i S0 C;obtain⟨⟨b,r,rfl,E,h2,P⟩,h4⟩:=Y;refine⟨b,rfl,⟨r,.of E⟩,w.here Q ⟨λd A m=> ∃r,SqL X.K m b r/\DenL X.K d m C r/\m b=some (.lst r)/\b∉d,?_,⟨r,.of E,P,E,h2⟩,?_,nS⟩⟩
  .intro i d A m ⟨j,B,z,v,O⟩ L;obtain⟨D,I⟩:=HR i d A m ⟨j,B,z⟩ L;refine⟨λhi=>⟨(D hi).1,λx H' y=>?_⟩,I⟩;obtain⟨M,F,j3,N⟩:=(D hi).2 x H' y;obtain⟨rfl,_⟩:=y;exact⟨M,F,⟨j,B,z,v,O⟩,N⟩
  .intro d A m G S3 H3 ⟨j,B,z,v,O⟩ x w3 _;exact⟨j,.of (x.keep b _ v O),z.ext x,x.keep b _ v O,x.out v O⟩
 .rename_i S0 C;obtain⟨a,r,rfl,s,l⟩:=OG Y.1;refine⟨a,rfl,⟨r,s.l⟩,w.here Q ⟨λd A m=> ∃r,SqL X.K m a r/\DenL X.K d m C r/\SqF X.K m a r,?_,⟨r,s.l,l,s⟩,?_,nS⟩⟩
  .intro i d A m ⟨j,B,z,v⟩ L;obtain⟨D,I⟩:=HR i d A m ⟨j,B,z⟩ L;refine⟨λhi=>⟨(D hi).1,λx H' y=>?_⟩,I⟩;obtain⟨M,F,j3,N⟩:=(D hi).2 x H' y;obtain⟨rfl,_⟩:=y;exact⟨M,F,⟨j,B,z,v⟩,N⟩
  .intro d A m G S3 H3 ⟨j,B,z,v⟩ x w3 _;exact⟨j,(x.sqF v).l,z.ext x,x.sqF v⟩
 .rename_i S0 n;obtain⟨a,rfl,h⟩:=pF Y.1;obtain⟨o,E,h2⟩:=Q.of h;rw[E]at w
  cases o with
  |lst C=>
   obtain⟨r,P,l⟩:=h2;refine⟨a,rfl,⟨r,.of P⟩,Post.here w Q ⟨λd A m=> ∃r,SqL X.K m a r/\DenL X.K d m C r/\d[n]? =some a,?_,⟨r,.of P,l,h⟩,?_,?_⟩⟩
   .intro i d A m ⟨j,B,z,v⟩ L;obtain⟨D,I⟩:=HR i d A m ⟨j,B,z⟩ L;refine⟨λhi=>⟨(D hi).1,λx H' y=>?_⟩,I⟩;obtain⟨M,F,j3,N⟩:=(D hi).2 x H' y;obtain⟨rfl,_⟩:=y;exact⟨M,F,⟨j,B,z,v⟩,N⟩
   .intro d A m G S3 H3 ⟨j,B,z,v⟩ x w3 hs;have J:=x.at v;have:=w3.obj n a _ J (hs (n,C) (by simp));obtain⟨U,b1,b2⟩:=this;exact⟨U,.of b1,b2,J⟩
   .intro p hp;have:p=(n,C):=by simpa using hp
    subst this;exact E
  |dic C=>exact w.elim
  |ins c fs=>exact w.elim
  |rcd c fs=>exact w.elim
  |fdc _=>exact w.elim
 .exact w.elim
noncomputable def Ki:Er->Sto->R Wk
 |.val (.tup ds),S=>.ok ⟨ds,[]⟩ S
 |_,_=>.no
def GD(d:yF X W iter f):PIm X W tg iter (λh S=>(f h S).bind Ki):=by
 obtain⟨t,d,k⟩:=d;refine⟨_,Yq d,λα h S σ H K wd r q=>k α h S σ H _ wd r (q.bind λu p B A J e o z v b=>?_)⟩
 replace b:=b.shift o
 unfold Ki at b;split at b
 .rename_i C I;obtain⟨a,j,rfl,s,l⟩:=nQ v.1;exact⟨a,rfl,⟨j,s⟩,b.here z ⟨_,Ep,⟨j,s,l⟩,λm G D n E F ⟨i,y,w⟩ x L _=>⟨i,x.sqT y,w.ext x⟩,nS⟩⟩
 .exact b.elim
noncomputable def Zs:Er->Sto->R Wk
 |.val (.str x),S=>.ok ⟨x.map λc=>.str [c],[]⟩ S
 |_,_=>.no
def UV(d:yF X W iter f):PIm X W tg iter (λb S=>(f b S).bind Zs):=by
 obtain⟨t,d,k⟩:=d;refine⟨_,Zk d,λα b S σ H s wd h q=>k α b S σ H _ wd h (q.bind λu p o n r e j m i a=>?_)⟩
 replace a:=a.shift j
 unfold Zs at a;split at a
 .rename_i v x;exact⟨x,wA i.1,a.here (u:=U7 x) m ⟨_,So,trivial,λ_ _ _ _ _ _ _ _ _ _=>trivial,nS⟩⟩
 .exact a.elim
noncomputable def eP:List Er->Sto->R Wk
 |[.val (.int j)],S=>if -(2 ^ 62)<=j/\j<2 ^ 62 then .ok ⟨(List.range j.toNat).map λk=>.int (k:Nat),[]⟩ S else .no
 |_,_=>.no
variable{a:Expr}
def FK{K:P0}(d:ArgsE K H0 α H [r] vs): ∃v,vs=[v]/\DenX K α H r v:=by
 cases d with
 |cons a n l=>cases l;exact⟨_,rfl,a.1⟩
def V4{K:P0}(d:ArgsE K H0 α H [r,r'] vs): ∃v u,vs=[v,u]/\DenX K α H r v/\DenX K α H r' u:=by
 cases d with
 |cons a n l=>obtain⟨u,rfl,b⟩:=FK l;exact⟨_,u,rfl,a.1,b⟩
def jT(r:Gl X "range")(hm:X.mg "range"=none)(f:IW X W [a] af)(hs:starEach [a] X.env=[(false,eval a X.env)]:=by rfl):PIm X W tg (.Call (.Name "range" p) [a] [] pos) (λd S=>(af d S).bind eP):=by
 obtain⟨t,f,k⟩:=f;refine⟨_,Hx r hm f hs,λα d S σ H y wd i q=>k α d S σ H _ wd i (q.bind λC z A w B e u s o b=>?_)⟩
 replace b:=b.shift u
 unfold eP at b;split at b
 .split at b
  .rename_i D j h;obtain⟨v,rfl,m⟩:=FK o;cases xT m;have:=Ip (X:=X) (lo:=0) (n:=j.toNat);simp only[Int.zero_add]at this;exact⟨j,rfl,h.1,h.2,b.here s ⟨_,this,trivial,λ_ _ _ _ _ _ _ _ _ _=>trivial,nS⟩⟩
  .exact b.elim
 .exact b.elim
open Classical in
noncomputable def bA(gf:MV->Rho->Sto->R Rho)(body:AY)(gs:V0):List MV->AY
 |[],ρ,S=>.ok (.next ρ) S
 |d::ds,ρ,S=>(gf d ρ S).bind λb f=>(body b f).bind λe a=>match e with
  |.next ρ'=>if stay gs a then bA gf body gs ds ρ' a else .no
  |.cont ρ'=>if stay gs a then bA gf body gs ds ρ' a else .no
  |.brk ρ'=>.ok (.next ρ') a
  |.ret r=>.ok (.ret r) a
open Classical in
def bE{Z:Rho->Sto->R Wk}{gf:MV->Rho->Sto->R Rho}(hp:PassesOwn ↑6 X.A X.env X.xe)(hc:X.calm=true)(hi:PIm X W tg iter Z)(hg:Zr X W tg gf)(hb:JH X W as F)
  (hs: ∀y,foldedSetIterable iter X.env y=pure y:=by intro _;rfl):Eo X W (.For tg iter as [] pos) (λU S=>(Z U S).bind λk S1=>bA gf F k.gs k.ds U S1):=by
 obtain⟨wi,hi,ki⟩:=hi;obtain⟨ag,hg,kg⟩:=hg;obtain⟨tb,hb,kb⟩:=hb;refine⟨_,Yr hp hc hi hg hb hs,λα U S σ H D wd sl q=>ki α U S σ H _ wd sl (q.expr λJ k S1 ae H1 e x1 w1 d1 q1=>?_)⟩;obtain⟨P,hP⟩:=d1;have af:=sl.ext x1
 replace q1:=PostS.shift x1 q1
 refine⟨λn m C L=>m=k.ds.length - n/\n<=k.ds.length/\ ∃b z N,Wd X.g b N L/\Slots X.K b L z C/\P b N L/\PostS X.g W b L D (bA gf F k.gs (k.ds.drop n) z N),⟨_,rfl,zero_le _,ae,U,S1,w1,af,hP.here,by simpa using q1⟩,?_⟩;rintro n m C L ⟨rfl,hn,b,z,N,w2,Y,p2,G⟩;obtain⟨i1,i2⟩:=hP.it n b N L p2 w2;by_cases t:n<k.ds.length
 .obtain⟨go,yl⟩:=i1 t;refine .inr ⟨go,λT u=> ∃i s S3,Wd X.g i S3 u/\Slots X.K i u s T/\P i S3 u/\PostS X.g W i u D (bA gf F k.gs (k.ds.drop (n+1)) s S3),λT u ⟨i,s,S3,h3⟩=>⟨k.ds.length - (n+1),by omega,rfl,t,i,s,S3,h3⟩,λv u y=>?_⟩;obtain⟨x3,w3,p3,d,hd,dv⟩:=yl v u y;have I:k.ds.drop n=d::k.ds.drop (n+1):=by rw[Ĩ t];have:=gE t;rw[hd]at this;rw[<-å this]
  rw[I]at G;unfold bA at G
  replace G:=PostS.shift x3 G
  refine kg b z N C u d v _ w3 (Y.ext x3) dv (G.expr λaa ab S4 B H4 e4 x4 w4 s4 q4=>?_);have p4: ∀a f H5,Ext B H4 a H5->Wd X.g a f H5->stay k.gs f->P a f H5:=λa f H5 o p Q=>hP.stays b N u a f H5 p3 (x4.trans o) p Q;refine kb B ab S4 aa H4 _ w4 s4 ((PostS.shift x4 q4).stmt ?_ ?_ ?_ ?_)
  .intro j f O a H5 e5 o p Q E;have h:PostS X.g W B H4 D (if stay k.gs f then bA gf F k.gs (k.ds.drop (n+1)) j f else .no):=E;split at h
   .rename_i M;exact⟨a,j,f,p,Q,p4 a f H5 o p M,PostS.shift o h⟩
   .exact h.elim
  .intro r f v5 a H5 e5 o p d5 E;exact E v5 a H5 o p d5
  .intro j f O a H5 e5 o p Q E;exact E O a H5 o p Q
  .intro j f O a H5 e5 o p Q E;have h:PostS X.g W B H4 D (if stay k.gs f then bA gf F k.gs (k.ds.drop (n+1)) j f else .no):=E;split at h
   .rename_i M;exact⟨a,j,f,p,Q,p4 a f H5 o p M,PostS.shift o h⟩
   .exact h.elim
 .have e:n=k.ds.length:=by omega
  subst e;refine .inl ⟨i2 (à _),?_⟩;rw[drop_length]at G;exact G C b L (Ext.refl _ _) w2 Y
end
noncomputable def noX:R β->R β
 |.ok b S=>.ok b S
 |_=>.no
theorem xO(b:β)(S):noX (R.ok b S)=.ok b S:=rfl
def Post.bindY[Dn β τ][Dn γ υ]{g:Gm}{W:XW}{α α':B9}{H H':Hp}(x:Ext α H α' H'){m:R β}{k:β->Sto->R γ}{Q:υ->Hp->Prop}{i:τ->Hp->Prop}(q:Post g W α H ((noX m).bind k) Q)
  (f: ∀u b h a e,m=.ok b h->Ext α' H' a e->Wd g a h e->Dn.d g H' a h e b u->Post g W α H (k b h) Q->i u e):Post g W0 α' H' m i:=by
 cases m with
 |ok b S=>exact λu a e x w d=>f u b S a e rfl x w d q
 |exc c fs S=>exact q.elim
 |no=>exact q
theorem R.bind_assoc(m:R β)(k1)(k2:γ->Sto->R δ):(m.bind k1).bind k2=m.bind λb S=>(k1 b S).bind k2:=by cases m<;>rfl
noncomputable def vD(nt:Nat)(a:Db)(ρ:Rho):Rho:=List.replicate nt none++a.map λi=>(ρ[i]?).join
open Classical in
def xV(gf:MV->Rho->Sto->R Rho)(cf:AZ)(ef:AX)(ρb:Rho)(gs:V0):List MV->Sto->R (List MV)
 |[],S=>.ok [] S
 |d::ds,S=>(noX (gf d ρb S)).bind λa i=>(noX (cf a i)).bind λk b=>
  if k=true then(noX (ef a b)).bind λr f=>(dR r f).bind λy e=>if stay gs e then(xV gf cf ef ρb gs ds e).bind λout h=>.ok (y::out) h else .no
  else if stay gs b then xV gf cf ef ρb gs ds b else .no
theorem SN{K:P0}(q:Slots K α H ρ σ)(nt)(idx)(τ)(a:τ.length=nt):Slots K α H (vD nt idx ρ) (τ++BQ σ idx):=by
 refine⟨by unfold vD;rw[lA,lA,nA,lM0,Č,a],λi d e=>?_⟩;unfold vD at e;by_cases hi:i<nt
 .rw[á (by rw[Č];exact hi),List.getElem?_replicate]at e;split at e<;>cases e
 .rw[â (by rw[Č];lia),Č,ü]at e
  cases z:idx[i - nt]? with
  |none=>rw[z]at e;cases e
  |some k=>
   rw[z]at e;have b:(ρ[k]?).join=some d:=å e
   cases f:ρ[k]? with
   |none=>rw[f]at b;cases b
   |some o=>
    rw[f]at b;have j:=b;subst j;obtain⟨v,h,m⟩:=q.slot k d f;refine⟨v,?_,m⟩;rw[â #[0],a];unfold BQ;rw[ü,z];show some (σ[k]?).join=some _;rw[h];rfl
def Keeps(nt:Nat)(σ:St)(Q:St->Hp->Prop):St->Hp->Prop:=λa H'=>a.length=σ.length->(∀j,nt<=j->a[j]? =σ[j]?)->Q a H'
def Sq(nt:Nat)(X:Cx)(W:XW)(tg:Expr)(gf:MV->Rho->Sto->R Rho):Prop:=
 ∃t,PG X tg t/\ ∀α a S σ H d v Q,Wd X.g α S H->Slots X.K α H a σ->Den X.K α H d v->Post X.g W α H (gf d a S) (Keeps nt σ Q)->t v σ H Q
def Ss(nt:Nat)(X:Cx)(W:XW)(a:O0)(gf:List MV->Rho->Sto->R Rho):Prop:=
 ∃t,O3 X a t/\ ∀α d S σ H b e Q,Wd X.g α S H->Slots X.K α H d σ->DenL X.K α H b e->Post X.g W α H (gf b d S) (Keeps nt σ Q)->t e σ H Q
section
variable{X:Cx}{W:XW}{pos:Pos}{nt:Nat}
theorem xE(i)(f:X.N.Nodup)(hi:X.N[i]? =some x:=by rfl)(k:Loc X.env.scope x:=by first |exact Or.inl rfl|exact Or.inr rfl)(e:Q0 X x:=by first |exact .inl rfl|exact .inr rfl|assumption)(b:i<nt:=by decide):
  Sq nt X W (.Name x pos) (xY i):=⟨_,Ec f hi k e,λα m S σ H d v Q wd a h q=>Post.here q wd (a.set h) (by rw[Ą]) λj n=>by rw[Ā #[0]]⟩
def Bz:Ss nt X W [] nB:=⟨_,Ed,λα f S σ H a h Q wd b e q=>by
 cases a with
 |nil=>exact⟨e.isnil,Post.here q wd b rfl λ_ _=>rfl⟩
 |cons d a=>exact q.elim⟩
def Post.keeps{m:R Rho}(i:σ1.length=σ.length)(k: ∀j,nt<=j->σ1[j]? =σ[j]?)(q:Post g W α H m (Keeps nt σ Q)):Post g W α H m (Keeps nt σ1 Q):=by
 cases m with
 |ok b S=>exact λu a n x w d f h=>q u a n x w d (f.trans i) λj e=>(h j e).trans (k j e)
 |exc c fs S=>exact q
 |no=>exact q
def EK(f:Sq nt X W e g1)(i:Ss nt X W es g2)(hs:(assignEach (e::es) X.env).map (·.2)=assign e X.env::(assignEach es X.env).map (·.2):=by rfl):Ss nt X W (e::es) (yR g1 g2):=by
 obtain⟨E,f,b⟩:=f;obtain⟨D,i,y⟩:=i;refine⟨_,XZ f i hs,λα w S σ H h C Q wd s z q=>?_⟩
 cases h with
 |nil=>exact q.elim
 |cons d h=>
  obtain⟨v,r,rfl,a,l⟩:=z.uncons;refine⟨v,r,rfl,b α w S σ H d v _ wd s a (Post.bind q λu p n k A e m B t o b j=>y k p n u A h r Q B t (l.ext m) (Post.keeps b j (o.shift m)))⟩
def Ca{k:Nat}(i:X.calm=true)(h:Ss nt X W es g2)
  (hn:(assignEach es X.env).length=n:=by rfl) (hst:(assignEach es X.env).findIdx? (·.1)=none:=by rfl):Sq nt X W (.Tuple es k pos) (MU n g2):=by
 obtain⟨t,h,k⟩:=h;refine⟨_,Kt i h hn hst,λα f S σ H d v Q wd e j q=>?_⟩;unfold MU at q;split at q
 .split at q
  .rename_i m;obtain⟨a,b,rfl,s,l⟩:=jD j;exact⟨a,b,rfl,s,by rw[l.length];exact m,k α f S σ H _ b Q wd e l q⟩
  .exact q.elim
 .exact q.elim
end
abbrev YQ(X:Cx)(W:XW)(a:O0)(f:AZ):Prop:=Jd X W (UQ X a) f
section
variable{X:Cx}{W:XW}{iter:Expr}{c:Expr}{pos:Pos}
def jM:YQ X W [] (λ_ S=>.ok true S):=⟨_,Lm,λα b S σ H Q wd a q=>q.here wd rfl⟩
def EL(h:MS X W c tf):YQ X W [c] tf:=let ⟨t,h,k⟩:=h;⟨t,Ln h,k⟩
def PIm.cm(h:PIm X W tg iter itf):Jd X W (Qz U6 X tg iter) itf:=let ⟨t,h,k⟩:=h;⟨t,h.c,k⟩
open Classical in
def Es{C:Cx->Prop}{ag tg:Expr}{ae:O0}{sc:Scope}{ak:Rho->Sto->R Wk}{cf:AZ}{ef:AX}{gf:MV->Rho->Sto->R Rho}(ai:Scope)(N:C0)(T:C0)(f:Db)
  (hi:Jd X W (Qz C X tg iter) ak) (hCx: ∀c a Y fp pins σ,Inv X pins σ Y a->C (zS X sc T f c a Y fp))
  (hg: ∀C a p fp,([]++T++f.map λi=>(N[i]?).getD Str.empty).Nodup->Sq T.length (zS X sc T f C a p fp) W0 tg gf)
  (hc: ∀C a p fp,YQ (zS X sc T f C a p fp) W0 ae cf) (he: ∀C a p fp,yF (zS X sc T f C a p fp) W0 ag ef)
  (e1:X.env.scope=ai:=by rfl) (e2:X.N=N:=by rfl) (hB:rE ai N sc f=true:=by decide+kernel) (hN:([]++T++f.map λi=>(N[i]?).getD Str.empty).Nodup:=by decide+kernel)
  (hs: ∀y,foldedSetIterable iter X.env y=pure y:=by intro _;rfl):
  Jd (β:=Er) (τ:=V) X W (λt=>PE X (.ListComp ag [⟨tg,iter,ae,0⟩] sc pos) t/\PU X (.ListComp ag [⟨tg,iter,ae,0⟩] sc pos) t) (λz S=>(ak z S).bind λk S1=>if k.ds.length<1000000 then(xV gf cf ef (vD T.length f z) k.gs k.ds S1).bind λout G=>.ok (.new out) G else .no):=by
 obtain⟨wi,hi,ki⟩:=hi;subst e1 e2;have aw:(1000000:Nat)<sizeLine:=by rw[ý];decide
 have au: ∃t,(∀C a p fp,PG (zS X sc T f C a p fp) tg t)/\ ∀α z S σ H d v Q,Wd X.g α S H->Slots X.K α H z σ->Den X.K α H d v->Post X.g W0 α H (gf d z S) (Keeps T.length σ Q)->t v σ H Q:=by refine⟨λv σ H Q=> ∃α z S d,Wd X.g α S H/\Slots X.K α H z σ/\Den X.K α H d v/\Post X.g W0 α H (gf d z S) (Keeps T.length σ Q),λC a p fp pins s σ H v u Q I r ⟨α,z,S,d,h1,h2,h3,h4⟩=>?_,λα z S σ H d v Q h1 h2 h3 h4=>⟨α,z,S,d,h1,h2,h3,h4⟩⟩;obtain⟨t,ht,kt⟩:=hg C a p fp hN;exact ht pins s σ H v u Q I r (kt α z S σ H d v Q h1 h2 h3 h4)
 obtain⟨ay,ah,kg⟩:=au;refine⟨_,⟨Sd T f hi hCx hB ah (λC a p fp=>(ò (hc C a p fp)).1) (λC a p fp=>(ò (he C a p fp)).1) hs,Se T f hi hCx hB ah (λC a p fp=>(ò (hc C a p fp)).1) (λC a p fp=>(ò (he C a p fp)).1) hs⟩,λα z S σ H Q wd sl q=>ki α z S σ H _ wd sl (q.bind λJ k S1 ar p e1 x1 w1 d1 q1=>?_)⟩;obtain⟨P,hP⟩:=d1;split at q1
 .rename_i av
  refine⟨λn m ys Y=>m=k.ds.length - n/\n<=k.ds.length/\ys.length<=n/\ ∃A G,Ext α H A Y/\Wd X.g A G Y/\P A G Y/\ ∃h,DenL X.K A Y h ys/\Post X.g W α H ((xV gf cf ef (vD T.length f z) k.gs (k.ds.drop n) G).bind λo B=>.ok (Er.new (h++o)) B) Q,
   ⟨_,rfl,zero_le _,à _,ar,S1,x1,w1,hP.here,[],xB,by simpa using q1⟩,?_⟩
  rintro n m ys Y ⟨rfl,hn,hy,A,G,x2,w2,p2,h,l,q2⟩;obtain⟨i1,i2⟩:=hP.it n A G Y p2 w2;refine⟨by omega,?_⟩;by_cases E:n<k.ds.length
  .obtain⟨go,yl⟩:=i1 E;refine .inr ⟨go,by omega,λv H3 y τ M=>?_⟩;obtain⟨x3,w3,p3,d,hd,dv⟩:=yl v H3 y;have aa:k.ds.drop n=d::k.ds.drop (n+1):=by rw[Ĩ E];have:=gE E;rw[hd]at this;rw[<-å this]
   rw[aa]at q2;unfold xV at q2;have ao:=SN (sl.ext (x2.trans x3)) T.length f τ M;refine kg A (vD T.length f z) G _ H3 d v _ w3 ao dv ?_;rw[R.bind_assoc]at q2;refine q2.bindY (x2.trans x3) λU aj S4 ab H4 e4 x4 w4 s4 q4 Z aq=>⟨⟨U.take T.length,?_,?_⟩,λC a fp=>?_⟩
   .refine ext_getElem? λj=>?_;have az:U.length=T.length+f.length:=by rw[Z,lA,nA,M]
    by_cases hj:j<T.length
    .rw[á (by rw[lT];omega),Ī hj]
    .rw[aq j (by omega),â (by omega),â (by rw[lT];omega),M,lT,min_eq_left (by omega)]
   .rw[lT,Z,lA,nA,M];omega
   have O:Ext α H ab H4:=(x2.trans x3).trans x4;have p4: ∀w L H5,Ext ab H4 w H5->Wd X.g w L H5->stay k.gs L->P w L H5:=λw L H5 F w5 s5=>hP.stays A G H3 w L H5 p3 (x4.trans F) w5 s5;rw[R.bind_assoc]at q4;refine(ò (hc C a p fp)).2 ab aj S4 U H4 _ w4 s4 (q4.bindY O λb5 a0 L w H5 e5 F w5 d5 q5=>?_);cases d5
   cases b5 with
   |false=>
    rw[iN0 xF0]at q5 ⊢;split at q5
    .rename_i af;exact⟨k.ds.length - (n+1),by omega,rfl,E,by omega,w,L,O.trans F,w5,p4 w L H5 F w5 af,h,(l.ext (x3.trans x4)).ext F,q5⟩
    .exact q5.elim
   |true=>
    rw[iP rfl,R.bind_assoc]at q5;rw[iP rfl];refine(ò (he C a p fp)).2 w aj L U H5 _ w5 (s4.ext F) (q5.bindY (O.trans F) λy6 r6 S6 ax H6 e6 x6 w6 d6 q6=>?_);obtain⟨d',B,α',e7,x7,y7,w7,de⟩:=eX w6 x6 d6;rw[e7]at q6;have q6:Post X.g W α H ((if stay k.gs B then(xV gf cf ef (vD T.length f z) k.gs (k.ds.drop (n+1)) B).bind λout S4=>.ok (d'::out) S4 else .no).bind λo B=>.ok (Er.new (h++o)) B) Q:=q6;split at q6
    .rename_i af;refine⟨k.ds.length - (n+1),by omega,rfl,E,by rw[lA,lS];omega,α',B,(O.trans F).trans x7,w7,p4 α' B H6 (F.trans x7) w7 af,h++[d'],((l.ext (x3.trans x4)).ext (F.trans x7)).append (yW de xB),?_⟩;rw[R.bind_assoc]at q6;have e8:(λ(o:R0) (B:Sto)=>R.ok (Er.new ((h++[d'])++o)) B)=(λ(b:R0) S=>(R.ok (d'::b) S).bind λo B=>.ok (Er.new (h++o)) B):=by funext o B;show _=R.ok (Er.new (h++(d'::o))) B;rw[aA];rfl
     rw[e8];exact q6
    .exact q6.elim
  .have e:n=k.ds.length:=by omega
   subst e;rw[drop_length]at q2;have q3:Post X.g W α H (.ok (Er.new (h++[])) G) Q:=q2;rw[aN]at q3;exact .inl ⟨i2 (à _),λD hD=>(q3.shift x2).newl w2 hD l⟩
 .exact q1.elim
open Classical in
def gU{f tg:Expr}{m:O0}{e:Scope}{j:Rho->Sto->R Wk}{cf:AZ}{ef:AX}{gf:MV->Rho->Sto->R Rho}(d:Scope)(N:C0)(T:C0)(a:Db)
  (hi:PIm X W tg iter j) (hcalm:X.calm=true)
  (hg: ∀C b n fp,([]++T++a.map λi=>(N[i]?).getD Str.empty).Nodup->Sq T.length (zS X e T a C b n fp) W0 tg gf)
  (hc: ∀C b n fp,YQ (zS X e T a C b n fp) W0 m cf) (he: ∀C b n fp,yF (zS X e T a C b n fp) W0 f ef)
  (e1:X.env.scope=d:=by rfl) (e2:X.N=N:=by rfl) (hB:rE d N e a=true:=by decide+kernel) (hN:([]++T++a.map λi=>(N[i]?).getD Str.empty).Nodup:=by decide+kernel)
  (hs: ∀y,foldedSetIterable iter X.env y=pure y:=by intro _;rfl):
  yF X W (.ListComp f [⟨tg,iter,m,0⟩] e pos) (λo S=>(j o S).bind λk q=>if k.ds.length<1000000 then(xV gf cf ef (vD T.length a o) k.gs k.ds q).bind λout p=>.ok (.new out) p else .no):=let ⟨t,h,k⟩:=(Es d N T a (PIm.cm hi) (λ_ _ _ _ _ _ _=>hcalm) hg hc he e1 e2 hB hN hs);⟨t,h.1,k⟩
open Classical in
def HS{x:Str}{f d:Pos}(i:Nat)(A:X.N.Nodup){n tg:Expr}{j:O0}{p:Scope}{s:Rho->Sto->R Wk}{cf:AZ}{ef:AX}{gf:MV->Rho->Sto->R Rho}(m:Scope)(N:C0)(T:C0)(a:Db)
  (hi:PIm X W tg iter s) (hcalm:X.calm=true)
  (hg: ∀C b o fp,([]++T++a.map λi=>(N[i]?).getD Str.empty).Nodup->Sq T.length (zS X p T a C b o fp) W0 tg gf)
  (hc: ∀C b o fp,YQ (zS X p T a C b o fp) W0 j cf) (he: ∀C b o fp,yF (zS X p T a C b o fp) W0 n ef)
  (w:X.env.scope=m:=by rfl) (e2:X.N=N:=by rfl) (hB:rE m N p a=true:=by decide+kernel) (hN:([]++T++a.map λi=>(N[i]?).getD Str.empty).Nodup:=by decide+kernel)
  (hs: ∀y,foldedSetIterable iter X.env y=pure y:=by intro _;rfl)
  (hi2:X.N[i]? =some x:=by rfl) (hx:Loc X.env.scope x:=by first |exact Or.inl rfl|exact Or.inr rfl)
  (hsw:swapsWith (.ListComp n [⟨tg,iter,j,0⟩] p pos) (some (.Name x f)) d.line X.env=pure true:=by with_unfolding_all rfl) (hf:Q0 X x:=by first |exact .inl rfl|exact .inr rfl|assumption):
  Eo X W (.Assign [.Name x f] (.ListComp n [⟨tg,iter,j,0⟩] p pos) d) (λv S=>((s v S).bind λk B=>if k.ds.length<1000000 then(xV gf cf ef (vD T.length a v) k.gs k.ds B).bind λout L=>.ok (.new out) L else .no).bind (MC v i)):=by
 obtain⟨t,h,k⟩:=(Es m N T a (PIm.cm hi) (λ_ _ _ _ _ _ _=>hcalm) hg hc he w e2 hB hN hs)
 refine⟨_,h.2 i x f d A hi2 hx hf hsw,λα v S σ H D wd F q=>k α v S σ H _ wd F (q.expr λu r B P o e E G K z=>?_)⟩;obtain⟨U,Q,α',w,I,M,J,O⟩:=eX G E K;unfold MC at z;rw[w]at z;exact z _ α' o I J (((F.ext E).ex0 M).set O)
end
mutual
def lo(n:Nat):MV->Prop
 |.loc l=>l<n
 |.tup ds=>MD n ds
 |.scr ds=>MD n ds
 |.obj _ _ ds=>MD n ds
 |_=>True
def MD(n:Nat):List MV->Prop
 |[]=>True
 |d::ds=>lo n d/\MD n ds
end
def loO(n:Nat):MO->Prop
 |.lst ds=>MD n ds
 |.dic kvs=> ∀p∈kvs,lo n p.1/\lo n p.2
 |.ins _ fs=> ∀p∈fs,lo n p.2
 |.rcd _ fs=> ∀p∈fs,lo n p.2
 |.fdc kvs=> ∀p∈kvs,lo n p.1/\lo n p.2
section
variable{K:P0}{α t:B9}{H:Hp}
mutual
theorem Den.back: ∀{d:MV}{v:V},Den K (α++t) H d v->lo α.length d->Den K α H d v
 |.non,_,q,_=>by cases iW q;exact rG
 |.bl _,_,q,_=>by cases rK q;exact wN _
 |.int _,_,q,_=>by cases jS q;exact xD _
 |.str _,_,q,_=>by cases kM q;exact gT _
 |.typ _,_,q,_=>by cases eV q;exact El _
 |.obj c ns ds,_,q,h=>by obtain⟨a,C,k,f,o,rfl,e,j,i,b,l⟩:=eU q;exact Sj e j i b (DenL.back l (by unfold lo at h;exact h))
 |.loc l,_,q,h=>by
  obtain⟨a,rfl,e⟩:=nP q;have b:l<α.length:=by unfold lo at h;exact h
  rw[á b]at e;exact HP e
 |.tup ds,_,q,h=>by obtain⟨a,f,rfl,s,l⟩:=jD q;exact rH s (DenL.back l (by unfold lo at h;exact h))
 |.scr ds,_,q,h=>by obtain⟨a,f,rfl,s,l⟩:=eW q;exact Em s (DenL.back l (by unfold lo at h;exact h))
theorem DenL.back: ∀{ds:R0}{b:List V},DenL K (α++t) H ds b->MD α.length ds->DenL K α H ds b
 |[],_,q,_=>by rw[q.isnil];exact xB
 |d::ds,_,q,h=>by obtain⟨v,r,rfl,a,l⟩:=q.uncons;unfold MD at h;exact yW (Den.back a h.1) (DenL.back l h.2)
end
mutual
theorem Den.lo: ∀{d:MV}{v:V},Den K α H d v->lo α.length d
 |.non,_,q=>by unfold M.lo;trivial
 |.bl _,_,q=>by unfold M.lo;trivial
 |.int _,_,q=>by unfold M.lo;trivial
 |.str _,_,q=>by unfold M.lo;trivial
 |.typ _,_,q=>by unfold M.lo;trivial
 |.obj c ns ds,_,q=>by obtain⟨a,C,f,b,o,rfl,e,i,h,j,l⟩:=eU q;unfold M.lo;exact DenL.lo l
 |.loc l,_,q=>by obtain⟨a,rfl,e⟩:=nP q;unfold M.lo;exact(gS.mp e).1
 |.tup ds,_,q=>by obtain⟨a,b,rfl,s,l⟩:=jD q;unfold M.lo;exact DenL.lo l
 |.scr ds,_,q=>by obtain⟨a,b,rfl,s,l⟩:=eW q;unfold M.lo;exact DenL.lo l
theorem DenL.lo: ∀{ds:R0}{b:List V},DenL K α H ds b->MD α.length ds
 |[],_,q=>by unfold MD;trivial
 |d::ds,_,q=>by obtain⟨v,r,rfl,a,l⟩:=q.uncons;unfold MD;exact⟨Den.lo a,DenL.lo l⟩
end
theorem DenK.back: ∀{fs gs},DenK K (α++t) H fs gs->(∀p∈fs,M.lo α.length p.1/\M.lo α.length p.2)->DenK K α H fs gs
 |_,_,.nil,_=>.nil
 |_,_,.cons k a l,h=>.cons k (a.back (h _ mF0).2) (DenK.back l λp b=>h p (mO _ b))
def KeyD.lo(h:KeyD k k'):M.lo n k:=by
 unfold KeyD at h;split at h
 .unfold M.lo;trivial
 .unfold M.lo;trivial
 .exact h.elim
theorem DenK.lo: ∀{fs gs},DenK K α H fs gs-> ∀p∈fs,M.lo α.length p.1/\M.lo α.length p.2
 |_,_,.nil=>λp h=>by simp at h
 |_,_,.cons k a l=>λp h=>(mC.mp h).elim (λe=>by subst e;exact⟨k.lo,a.lo⟩) (DenK.lo l p)
theorem DenN.back: ∀{fs xs},DenN K (α++t) H fs xs->(∀p∈fs,M.lo α.length p.1/\M.lo α.length p.2)->DenN K α H fs xs
 |_,_,.nil,_=>.nil
 |_,_,.cons k e a d r l,h=>.cons k e (a.back (h _ mF0).1) (d.back (h _ mF0).2) r (DenN.back l λp b=>h p (mO _ b))
theorem DenN.lo: ∀{fs xs},DenN K α H fs xs-> ∀p∈fs,M.lo α.length p.1/\M.lo α.length p.2
 |_,_,.nil=>λp h=>by simp at h
 |_,_,.cons k e a d r l=>λp h=>(mC.mp h).elim (λz=>by subst z;exact⟨a.lo,d.lo⟩) (DenN.lo l p)
theorem DenF.back: ∀{fs gs},DenF K (α++t) H fs gs->(∀p∈fs,M.lo α.length p.2)->DenF K α H fs gs
 |_,_,.nil,_=>.nil
 |_,_,.cons a l,h=>.cons (a.back (h _ mF0)) (DenF.back l λp b=>h p (mO _ b))
theorem DenF.lo: ∀{fs gs},DenF K α H fs gs-> ∀p∈fs,M.lo α.length p.2
 |_,_,.nil=>λp h=>by simp at h
 |_,_,.cons a l=>λp h=>(mC.mp h).elim (λe=>by subst e;exact a.lo) (DenF.lo l p)
def ObD.back(q:ObD g (α++t) H a o)(h:loO α.length o):ObD g α H a o:=by
 cases o with
 |lst ds=>obtain⟨d,b,l⟩:=q;exact⟨d,b,l.back h⟩
 |dic ds=>
  rcases q with⟨d,b,l⟩|⟨d,b,l⟩
  .exact .inl ⟨d,b,l.back h⟩
  .exact .inr ⟨d,b,l.back h⟩
 |ins c fs=>obtain⟨C,e,m,l,r⟩:=q;exact⟨C,e,m,l.back h,r⟩
 |rcd c fs=>obtain⟨C,i,e,m,b,l⟩:=q;exact⟨C,i,e,m,b,l.back h⟩
 |fdc kvs=>obtain⟨f,xs,b,l⟩:=q;exact⟨f,xs,b,l.back h⟩
def ObD.lo(q:ObD g α H a o):loO α.length o:=by
 cases o with
 |lst ds=>obtain⟨d,b,l⟩:=q;exact l.lo
 |dic ds=>
  rcases q with⟨d,b,l⟩|⟨d,b,l⟩
  .exact l.lo
  .exact l.lo
 |ins c fs=>obtain⟨C,e,m,l,r⟩:=q;exact l.lo
 |rcd c fs=>obtain⟨C,h,e,m,b,l⟩:=q;exact l.lo
 |fdc kvs=>obtain⟨f,xs,b,l⟩:=q;exact l.lo
end
def Et(S a:Sto):Prop:=↑5<=a.length/\ ∀l,l<↑5->a[l]? =S[l]? \/ ∃o,a[l]? =some o/\loO ↑5 o
open Classical in
noncomputable def oE(S:Sto)(r:Er)(a:Sto):R Er:=
 if Et S a then match r with
  |.val (.loc l)=>if l<S.length then .ok r (a.take S.length)else match a[l]? with
   |some (.lst ds)=>if MD S.length ds then .ok (.new ds) (a.take S.length)else .ok r a
   |_=>.ok r a
  |.val d=>if lo S.length d then .ok r (a.take S.length)else .ok r a
  |.new ds=>if MD S.length ds then .ok r (a.take S.length)else .ok r a
 else .ok r a
theorem UW(G:Ext α H α1 H1)(Q:Wd g α1 S1 H1)(I: ∃t,α2=α1++t)(x2:Ext α H α2 H1)(U:Ext α2 H1 α3 H3)(n:Wd g α3 S3 H3)(d:DenE g.K H1 α3 H3 r v):
  ∃W T α',oE S1 r S3=.ok W T/\Ext α H α' H3/\Wd g α' T H3/\DenE g.K H α' H3 W v:=by
 have i:=x2.trans U;have f:=d.back λb h=>G.free h;unfold oE;by_cases F:Et S1 S3
 .rw[iP F];obtain⟨t,C⟩: ∃t,α3=α1++t:=by obtain⟨t,e⟩:=I;obtain⟨u,Y⟩:=U.pre;exact⟨_,by rw[Y,e,aA]⟩
  have A:=Q.len;have s:Ext α H α1 H3:=⟨⟨G.pre,i.tup,i.frz⟩,G.new,i.keep,i.has⟩
  have p:Wd g α1 (S3.take S1.length) H3:=by
   refine⟨by rw[lT,A,min_eq_left F.1],Q.nd,λl a o B y=>?_⟩;have j:l<S1.length:=by rw[<-A];exact(gS.mp B).1
   rw[Ī j]at y;have M:α3[l]? =some a:=by rw[C,á (by rw[A];exact j)];exact B
   have q:=n.obj l a o M y;rw[C]at q;refine q.back ?_;rcases F.2 l j with e|⟨o',e,lo'⟩
   .rw[e]at y;exact(Q.obj l a o B y).lo
   .rw[y]at e;cases e;rw[A];exact lo'
  have k: ∀d,lo S1.length d->Den g.K α3 H3 d v->DenE g.K H α1 H3 _ v:=λd Z q=>.val ((C▸q:Den g.K _ H3 d v).back (by rw[A];exact Z))
  cases r with
  |new O=>
   dsimp only;split
   .rename_i j;obtain⟨⟨b,E,rfl,B,y,h3⟩,h4⟩:=f;exact⟨_,_,α1,rfl,s,p,⟨b,E,rfl,B,λz=>y (by rw[C];exact ÿ _ z),(C▸h3:DenL g.K _ H3 O E).back (by rw[A];exact j)⟩,h4⟩
   .exact⟨_,_,α3,rfl,i,n,f⟩
  |val mv=>
   have w:Den g.K α3 H3 mv v:=f.1
   cases mv with
   |loc l=>
    dsimp only;split
    .rename_i j;exact⟨_,_,α1,rfl,s,p,k _ (by unfold lo;exact j) w⟩
    .rename_i j;obtain⟨a,rfl,P⟩:=nP w;split
     .rename_i O hS;split
      .rename_i L;obtain⟨E,B,y⟩:=n.obj l a _ P hS
       have D:a∉α1:=λz=>by
        obtain⟨m,S⟩:=List.getElem?_of_mem z;have J:m<α1.length:=(gS.mp S).1;have N:α3[m]? =some a:=by rw[C,á J];exact S
        obtain⟨u1,X⟩:=gS.mp N;obtain⟨u2,e2⟩:=gS.mp P;have:=(getElem_inj n.nd).mp (X.trans e2.symm)
        lia
       refine⟨_,_,α1,rfl,s,p,⟨a,E,rfl,B,D,(C▸y:DenL g.K _ H3 O E).back (by rw[A];exact L)⟩,λb e=>?_⟩;cases e;rcases i.new a (ô P)with z|z
       .obtain⟨u,eu⟩:=G.pre;exact absurd (by rw[eu];exact ÿ _ z) D
       .exact z
      .exact⟨_,_,α3,rfl,i,n,f⟩
     .exact⟨_,_,α3,rfl,i,n,f⟩
   |non=>dsimp only;split;(· rename_i j;exact⟨_,_,α1,rfl,s,p,k _ j w⟩);(· exact⟨_,_,α3,rfl,i,n,f⟩)
   |bl b=>dsimp only;split;(· rename_i j;exact⟨_,_,α1,rfl,s,p,k _ j w⟩);(· exact⟨_,_,α3,rfl,i,n,f⟩)
   |int b=>dsimp only;split;(· rename_i j;exact⟨_,_,α1,rfl,s,p,k _ j w⟩);(· exact⟨_,_,α3,rfl,i,n,f⟩)
   |str b=>dsimp only;split;(· rename_i j;exact⟨_,_,α1,rfl,s,p,k _ j w⟩);(· exact⟨_,_,α3,rfl,i,n,f⟩)
   |typ b=>dsimp only;split;(· rename_i j;exact⟨_,_,α1,rfl,s,p,k _ j w⟩);(· exact⟨_,_,α3,rfl,i,n,f⟩)
   |obj b b' b''=>dsimp only;split;(· rename_i j;exact⟨_,_,α1,rfl,s,p,k _ j w⟩);(· exact⟨_,_,α3,rfl,i,n,f⟩)
   |tup b=>dsimp only;split;(· rename_i j;exact⟨_,_,α1,rfl,s,p,k _ j w⟩);(· exact⟨_,_,α3,rfl,i,n,f⟩)
   |scr b=>dsimp only;split;(· rename_i j;exact⟨_,_,α1,rfl,s,p,k _ j w⟩);(· exact⟨_,_,α3,rfl,i,n,f⟩)
 .rw[iN0 F];exact⟨_,_,α3,rfl,i,n,f⟩
def XS(g:Gm)(n:Nat)(F:List MV->Sto->R Er):Sp:=λb H Q _=> ∃α S a,Wd g α S H/\DenL g.K α H a b/\a.length=n/\Post g W0 α H (F a S) Q
def yC(n:Nat)(F:List MV->Sto->R Er)(rs:List Er)(S:Sto):R Er:=if rs.length=n then(noX (F (yB rs S).1 (yB rs S).2)).bind λr a=>oE S r a else .no
section
variable{X:Cx}{pos:Pos}
def SO(d:Ext α H α1 H1)(b:Wd X.g α1 S1 H1)(h:ArgsE X.K H α1 H1 rs vs)(q:Post X.g W α H (yC n F rs S1) Q):
  XS X.g n F vs H1 Q E0:=by
 unfold yC at q;split at q
 .rename_i o;obtain⟨a,s,i,u,k⟩:=uP b d h;refine⟨a,_,_,u,k,by rw[EH];exact o,?_⟩
  cases z:F (yB rs S1).1 (yB rs S1).2 with
  |ok r S3=>
   rw[z]at q;intro v m p f y e;obtain⟨B,C,α',t,w,A,j⟩:=UW d b i.pre s f y e;have q:Post X.g W α H (oE S1 r S3) Q:=q;rw[t]at q;exact q v α' p w A j
  |exc c fs S3=>rw[z]at q;exact q.elim
  |no=>rw[z]at q;exact q.elim
 .exact q.elim
def Eu{p:Pos}(G:FnOk X.prog X.w X.K X.mg X.base LD k fa fd ps (XS X.g n F))(m:Room k X.A)(j:Gl X x)(hm:X.mg x=some (.ref fa))
  (hk:PySem.W.keepIn X.K (.ref fa)=true) (hb:Binds X.K fd ps []) (b:IW X W (e::es) af) (hdb:(x==("__debug__"))=false:=by decide)
  (he:q8 X e es:=by rfl) (hpl:q9 X pos es:=by rfl):
  yF X W (.Call (.Name x p) (e::es) [] pos) (λa S=>(af a S).bind λd f=>yC n F d f):=by
 obtain⟨t,b,o⟩:=b;refine⟨_,UH G m j hm hk hb .nil U4 b hdb he hpl,λα a S σ H Q wd h q=>o α a S σ H _ wd h (q.bind λB d f v z y r u i s=>?_)⟩;rw[aN];exact SO r u i s
end
noncomputable def zU(N:C0)(ds:R0):Rho:=ds.map some++List.replicate (N.length - ds.length) none
noncomputable def xF:R Fl->R Er
 |.ok (.next _) S=>.ok (.val .non) S
 |.ok (.ret r) S=>.ok r S
 |.exc c fs S=>.exc c fs S
 |_=>.no
def BU{K:P0}(l:DenL K α H ds vs):Slots K α H (zU N ds) (start N vs):=by
 have a:=l.length;refine⟨?_,λi d e=>?_⟩
 .unfold start zU;rw[lA,lA,lM0,lM0,Č,Č,a]
 .unfold zU at e;by_cases hi:i<ds.length
  .rw[á (by simpa using hi),ü]at e
   cases z:ds[i]? with
   |none=>rw[z]at e;cases e
   |some d'=>
    rw[z]at e;obtain⟨v,b,h⟩:=l.at z;have f:=å (å e);subst f;refine⟨v,?_,h⟩;unfold start;rw[á (by rw[lM0,a];exact hi),ü,b];rfl
  .rw[â (by simpa using hi),List.getElem?_replicate]at e;split at e<;>cases e
section
variable{K:P0}
def FL{st:Stmt}(Fb)(F:Fun K x qual st f fd)(o:FnScope N ps (zG st))
  (hbody: ∀ b  A  a  s  H  E ,Room k (A.deeper (envOfC qual (zG st) ↑0 f b))->
   JH (LZ LD P w K mg base N qual (zG st) f b A a s H E).nox W0 (gR st) Fb):
  FnOk P w K mg base LD (k+1) f fd ps (XS ⟨K,mg,P,w⟩ ps.length λi S=>xF (Fb (zU N i) S)):=by
 refine F.ok o (λy H Q E h=>?_) (λb A a s H y Q E n h=>?_)
 .obtain⟨α,S,i,_,l,j,_⟩:=h;rw[l.length,j]
 .obtain⟨α,S,i,wd,l,j,q⟩:=h;obtain⟨t,u,p⟩:=hbody b A a s H E n;refine⟨t,u,p α _ S _ H _ wd (BU l) ?_⟩;dsimp only at q
  cases z:Fb _ S with
  |ok fl S'=>
   rw[z]at q
   cases fl with
   |next ρ=>exact λσ α' H' e d B=>q .non α' H' e d (DenE.val rG)
   |ret r=>exact λv α' H' e d m=>q v α' H' e d m
   |brk ρ=>exact q.elim
   |cont ρ=>exact q.elim
  |exc c fs S'=>rw[z]at q;exact λα' H' e d=>q α' H' e d
  |no=>rw[z]at q;exact q
end
inductive Vw where
 |fl (v:V)|tp (ds:R0)|ls (ds:R0)
noncomputable def cJ(S:Sto):Er->Option (List MV)
 |.new ds=>some ds
 |.val (.scr ds)=>some ds
 |.val (.loc l)=>match S[l]? with
  |some (.lst ds)=>some ds
  |_=>none
 |_=>none
def SQ(S:Sto):Er->Option Vw
 |.val .non=>some (.fl .non)
 |.val (.bl b)=>some (.fl (.bl b))
 |.val (.int i)=>some (.fl (.int i))
 |.val (.str x)=>some (.fl (.str (yZ x)))
 |.val (.tup ds)=>some (.tp ds)
 |.val (.typ _)=>none
 |.val (.obj _ _ _)=>none
 |r=>(cJ S r).map .ls
noncomputable def IX(e:MV->MV->Option Bool):List MV->List MV->Option (List Bool)
 |d::ds,f::fs=>(e d f).bind λk=>(IX e ds fs).map (k::·)
 |_,_=>some []
def Zt(e:MV->MV->Option Bool):Vw->Vw->Option Bool
 |.fl x,.fl y=>some (Rz x y)
 |.tp ds,.tp es=>(IX e ds es).map λbs=>bs.all id&&ds.length==es.length
 |.ls ds,.ls es=>if ds.length=es.length then(IX e ds es).map λbs=>bs.all id else some false
 |_,_=>some false
theorem Cb(e)(ds es):Zt e (.tp ds) (.tp es)=(IX e ds es).map λbs=>bs.all id&&ds.length==es.length:=rfl
theorem Cc(e)(ds es):Zt e (.ls ds) (.ls es)=if ds.length=es.length then(IX e ds es).map λbs=>bs.all id else some false:=rfl
def eqv(S:Sto):Nat->MV->MV->Option Bool
 |0,_,_=>none
 |n+1,a,b=>(SQ S (.val a)).bind λx=>(SQ S (.val b)).bind λy=>Zt (eqv S n) x y
def HU(S:Sto)(n:Nat)(a b:Er):Option Bool:=(SQ S a).bind λx=>(SQ S b).bind λy=>Zt (eqv S n) x y
section
variable{X:Cx}{α:B9}{S:Sto}{H:Hp}
def uQ{K:P0}(j:g.K=K)(wd:Wd g α S H)(e:cJ S r=some ds)(d:DenX K α H r x): ∃a f,x=.ref a/\SqL K H a f/\DenL K α H ds f:=by
 subst j;unfold cJ at e;split at e
 .cases e;obtain⟨b,f,rfl,h,_,l⟩:=d;exact⟨b,f,rfl,.of h,l⟩
 .cases e;obtain⟨a,f,rfl,s,l⟩:=OG d;exact⟨a,f,rfl,s.l,l⟩
 .rename_i n;obtain⟨a,rfl,h⟩:=pF d;split at e
  .rename_i es k;cases e;obtain⟨f,i,l⟩:=wd.obj n a _ h k;exact⟨a,f,rfl,.of i,l⟩
  .cases e
 .cases e
def AV(e:SQ S r=some (.fl y))(d:DenX X.K α H r x):x=y/\uI y=true:=by
 unfold SQ at e;split at e
 .cases e;exact⟨sG d,rfl⟩
 .cases e;exact⟨uO d,rfl⟩
 .cases e;exact⟨xT d,rfl⟩
 .cases e;exact⟨wA d,rfl⟩
 .cases e
 .cases e
 .cases e
 .cases z:cJ S r<;>rw[z]at e<;>cases e
def AW(e:SQ S r=some (.tp ds))(d:DenX X.K α H r x): ∃a b,x=.ref a/\SqT X.K H a b/\DenL X.K α H ds b:=by
 unfold SQ at e;split at e
 .cases e
 .cases e
 .cases e
 .cases e
 .cases e;exact nQ d
 .cases e
 .cases e
 .cases z:cJ S r<;>rw[z]at e<;>cases e
def BA(wd:Wd X.g α S H)(e:SQ S r=some (.ls ds))(d:DenX X.K α H r x): ∃a b,x=.ref a/\SqL X.K H a b/\DenL X.K α H ds b:=by
 unfold SQ at e;split at e
 .cases e
 .cases e
 .cases e
 .cases e
 .cases e
 .cases e
 .cases e
 .cases z:cJ S r with
  |none=>rw[z]at e;cases e
  |some es=>rw[z]at e;cases e;exact uQ rfl wd z d
theorem EM: ∀{ds es}{bs},IX e ds es=some bs->bs.length=min ds.length es.length
 |[],_,_,h=>by simp[IX]at h;subst h;simp
 |_::_,[],_,h=>by simp[IX]at h;subst h;simp
 |d::ds,f::fs,bs,h=>by
  unfold IX at h
  cases z:e d f with
  |none=>rw[z]at h;cases h
  |some k=>
   rw[z]at h
   cases a:IX e ds fs with
   |none=>simp[a]at h
   |some cs=>
    simp[a]at h;subst h;simp[EM a]
theorem UX: ∀{ds es}{bs}{j}{d f},IX e ds es=some bs->ds[j]? =some d->es[j]? =some f->e d f=some (bs.getD j true)
 |[],_,_,_,_,_,h,h1,_=>by simp at h1
 |_::_,[],_,_,_,_,h,_,h2=>by simp at h2
 |d::ds,f::fs,bs,j,d',f',h,h1,h2=>by
  unfold IX at h
  cases z:e d f with
  |none=>rw[z]at h;cases h
  |some k=>
   rw[z]at h
   cases a:IX e ds fs with
   |none=>simp[a]at h
   |some cs=>
    simp[a]at h;subst h
    cases j with
    |zero=>simp at h1 h2;subst h1 h2;simpa using z
    |succ j=>simpa using UX a (by simpa using h1) (by simpa using h2)
def range_all{bs:M0}(h:bs.length=n):(List.range n).all (λj=>bs.getD j true)=bs.all id:=by
 subst h;rw[Bool.eq_iff_iff,ì,ì];constructor
 .intro h x b;obtain⟨i,hi,rfl⟩:=List.getElem_of_mem b;have:=h i (mem_range.mpr hi);simpa [Ė,hi]using this
 .intro h i hi;have a:=mem_range.mp hi;have:=h bs[i] (getElem_mem a);simpa [Ė,a]using this
variable{pins:L1}{σ:St}{s:Ĵ}
def HV(I:↑1)(h:SqL X.K H a xs)(h':SqT X.K H a ys):False:=by obtain⟨_,_,f,_⟩:=I.list h;obtain⟨_,_,pt,_⟩:=I.tuple h';obtain⟨o,n,e,c,_,_⟩:=f;obtain⟨i,d,b,_⟩:=pt;rw[e]at d;cases d;rw[c]at b;exact absurd b (by simp)
theorem Lz(I:↑1)(wd:Wd X.g α S H)(M: ∀d f v k,Den X.K α H d v->Den X.K α H f v->e d f=some k->k=true)
  (ha:SQ S a=some p) (hb:SQ S b=some q) (da:DenX X.K α H a x) (db:DenX X.K α H b x) (h:Zt e p q=some k):k=true:=by
 have B: ∀{ds es:R0}{m:List V}{bs:M0},DenL X.K α H ds m->DenL X.K α H es m->IX e ds es=some bs->bs.all id=true:=by
  intro ds es m bs o j z;rw[ì];intro k G;obtain⟨i,hi,rfl⟩:=List.getElem_of_mem G;have O:=EM z;have D:i<ds.length:=by lia
  have E:i<es.length:=by lia
  obtain⟨v,J,F⟩:=o.at (gE D);obtain⟨P,C,L⟩:=j.at (gE E);rw[J]at C;cases C;have:=M _ _ _ _ F L (UX z (gE D) (gE E));simpa [Ė,hi]using this
 cases p with
 |fl y=>
  obtain⟨rfl,w⟩:=AV ha da
  cases q with
  |fl z=>obtain⟨rfl,t⟩:=AV hb db;cases h;exact Lq w
  |tp ds=>obtain⟨a,m,rfl,_⟩:=AW hb db;exact absurd w xF0
  |ls ds=>obtain⟨a,m,rfl,_⟩:=BA wd hb db;exact absurd w xF0
 |tp ds=>
  obtain⟨N,m,rfl,s1,o⟩:=AW ha da
  cases q with
  |fl z=>obtain⟨rfl,t⟩:=AV hb db;exact absurd t xF0
  |tp es=>
   obtain⟨A,u,r,n,j⟩:=AW hb db;cases r;cases I.tuple_inj s1 n;rw[Cb]at h
   cases z:IX e ds es with
   |none=>rw[z]at h;cases h
   |some bs=>
    rw[z]at h;cases h;show(bs.all id&&ds.length==es.length)=true;rw[B o j z, <-o.length, <-j.length];simp
  |ls es=>obtain⟨A,u,r,n,j⟩:=BA wd hb db;cases r;exact(HV I n s1).elim
 |ls ds=>
  obtain⟨N,m,rfl,s1,o⟩:=BA wd ha da
  cases q with
  |fl z=>obtain⟨rfl,t⟩:=AV hb db;exact absurd t xF0
  |tp es=>obtain⟨A,u,r,n,j⟩:=AW hb db;cases r;exact(HV I s1 n).elim
  |ls es=>
   obtain⟨A,u,r,n,j⟩:=BA wd hb db;cases r;cases I.list_inj s1 n;rw[Cc]at h;rw[iP (by rw[<-o.length, <-j.length])]at h
   cases z:IX e ds es with
   |none=>rw[z]at h;cases h
   |some bs=>rw[z]at h;cases h;exact B o j z
theorem OK(I:↑1)(wd:Wd X.g α S H): ∀ n  d f  v  k ,Den X.K α H d v->Den X.K α H f v->eqv S n d f=some k->k=true
 |0,_,_,_,_,_,_,h=>by cases h
 |n+1,d,f,v,k,h1,h2,h=>by
  unfold eqv at h
  cases a:SQ S _ with
  |none=>rw[a]at h;cases h
  |some p=>
   cases b:SQ S _ with
   |none=>rw[a,b]at h;cases h
   |some q=>
    rw[a,b]at h;exact Lz I wd (OK I wd n) a b h1 h2 h
def HW(B: ∀d f x y u v k,Den X.K α H d x->Den X.K α H f y->RelV x u->RelV y v->e d f=some k->SeqAt.EqAt A s u v k)
      (l1:DenL X.K α H ds vs) (l2:DenL X.K α H es us) (r1:Vals vs its) (r2:Vals us its2) (z:IX e ds es=some bs):
  ∀j  a  (b:j<its2.toArray.size),SeqAt.EqAt A s its.toArray[j] its2.toArray[j] (bs.getD j true):=by
 intro j a b;have i:j<vs.length:=by rw[r1.length];simpa using a
 have h:j<us.length:=by rw[r2.length];simpa using b
 obtain⟨d,n,w⟩:=l1.get (gE i);obtain⟨f,p,C⟩:=l2.get (gE h);obtain⟨u,o,r⟩:=r1.get (gE i);obtain⟨v,q,t⟩:=r2.get (gE h);have m:its.toArray[j]=u:=by have:its[j]? =some (its[j]'(by simpa using a)):=gE _;rw[o]at this;simpa using(å this).symm
 have D:its2.toArray[j]=v:=by have:its2[j]? =some (its2[j]'(by simpa using b)):=gE _;rw[q]at this;simpa using(å this).symm
 rw[m,D];exact B d f _ _ u v _ w C r t (UX z n p)
theorem JM(I:↑1)(wd:Wd X.g α S H): ∀ n  A  d f  x y  u v  k ,A.units+n<cLine->Den X.K α H d x->Den X.K α H f y->RelV x u->RelV y v->eqv S n d f=some k->SeqAt.EqAt A s u v k
 |0,_,_,_,_,_,_,_,_,_,_,_,_,_,h=>by cases h
 |n+1,A,d,f,x,y,u,v,k,hu,h1,h2,rx,ry,h=>by
  have i:A.units<cLine:=by lia
  have B:=h;unfold eqv at h
  cases J:SQ S _ with
  |none=>rw[J]at h;cases h
  |some p=>
   cases w:SQ S _ with
   |none=>rw[J,w]at h;cases h
   |some q=>
    rw[J,w]at h;have h:Zt _ p q=some k:=h;have T:=λd f x y u v k a b c Y e=>JM I wd n A.in1 d f x y u v k #[0] a b c Y e
    cases p with
    |fl x'=>
     obtain⟨rfl,P⟩:=AV J h1
     cases q with
     |fl y'=>obtain⟨rfl,N⟩:=AV w h2;cases h;exact Ze rx ry P N
     |tp es=>
      obtain⟨b,L,rfl,t,r⟩:=AW w h2;cases ry;cases h;obtain⟨o,_,pt,_⟩:=I.tuple t;exact(LF rx P pt i).2.1
     |ls es=>
      obtain⟨b,L,rfl,t,r⟩:=BA wd w h2;cases ry;cases h;obtain⟨o,_,D,_⟩:=I.list t;exact(SD rx P D.isList i).2.1
    |tp ds=>
     obtain⟨a,W,rfl,s1,C⟩:=AW J h1;cases rx;obtain⟨o,E,pt,_⟩:=I.tuple s1
     cases q with
     |fl y'=>obtain⟨rfl,N⟩:=AV w h2;cases h;exact(LF ry N pt i).1
     |tp es=>
      obtain⟨b,L,rfl,t,r⟩:=AW w h2;cases ry;by_cases m:a=b
      .subst m;rw[OK I wd _ d f _ k h1 h2 B];exact SeqAt.EqAt.same _
      .obtain⟨j,G,O,_⟩:=I.tuple t;rw[Cb]at h
       cases z:IX _ ds es with
       |none=>rw[z]at h;cases h
       |some bs=>
        rw[z]at h;cases h;have:=SeqAt.RcAt.tuples pt O i (HW T C r E G z);have F:=EM z;rw[range_all (by rw[F];simp[<-E.length, <-G.length,C.length,r.length])]at this;have U:(o.toArray.size==j.toArray.size)=(ds.length==es.length):=by simp[<-E.length, <-G.length,C.length,r.length]
        rw[U]at this;exact SeqAt.EqAt.of_refs m this
     |ls es=>
      obtain⟨b,L,rfl,t,r⟩:=BA wd w h2;cases ry;cases h;obtain⟨j,_,D,_⟩:=I.list t;exact SeqAt.EqAt.tuple_list pt D.isList i
    |ls ds=>
     obtain⟨a,W,rfl,s1,C⟩:=BA wd J h1;cases rx;obtain⟨o,E,D,_⟩:=I.list s1
     cases q with
     |fl y'=>obtain⟨rfl,N⟩:=AV w h2;cases h;exact(SD ry N D.isList i).1
     |tp es=>
      obtain⟨b,L,rfl,t,r⟩:=AW w h2;cases ry;cases h;obtain⟨j,_,pt,_⟩:=I.tuple t;exact SeqAt.EqAt.list_tuple D.isList pt i
     |ls es=>
      obtain⟨b,L,rfl,t,r⟩:=BA wd w h2;cases ry;by_cases m:a=b
      .subst m;rw[OK I wd _ d f _ k h1 h2 B];exact SeqAt.EqAt.same _
      .obtain⟨j,G,M,_⟩:=I.list t;rw[Cc]at h;by_cases F:ds.length=es.length
       .rw[iP F]at h
        cases z:IX _ ds es with
        |none=>rw[z]at h;cases h
        |some bs=>
         rw[z]at h;cases h;have hs:o.toArray.size=j.toArray.size:=by simp[<-E.length, <-G.length,C.length,r.length,F]
         have:=SeqAt.RcAt.lists D.isList M.isList hs i (HW T C r E G z);have Q:=EM z;rw[range_all (by rw[Q];simp[<-E.length,C.length,F])]at this;exact SeqAt.EqAt.of_refs m this
       .rw[iN0 F]at h;cases h;exact SeqAt.EqAt.of_refs m (SeqAt.RcAt.lists_lengths D.isList M.isList (by simpa [<-E.length, <-G.length,C.length,r.length]using F) i)
theorem Wu{B:Around->Ĵ->ĵ->ĵ->Bool->Prop}{tr:Bool->Bool}
  (hff: ∀x y u v,RelV x u->RelV y v->uI x=true->uI y=true->B A s u v (tr (Rz x y)))
  (hfl: ∀x v l m,RelV x v->uI x=true->s.heap.IsList l m->A.units<cLine->B A s v (.ref l) (tr false)/\B A s (.ref l) v (tr false))
  (hft: ∀x v l m,RelV x v->uI x=true->s.heap.IsTuple l m->A.units<cLine->B A s v (.ref l) (tr false)/\B A s (.ref l) v (tr false))
  (hlt: ∀l b m i,s.heap.IsList l m->s.heap.IsTuple b i->A.units<cLine->B A s (.ref l) (.ref b) (tr false)/\B A s (.ref b) (.ref l) (tr false))
  (htt: ∀ l b  m i  e ,s.heap.IsTuple l m->s.heap.IsTuple b i->A.units<cLine->(∀j  Q  (E:j<i.size),SeqAt.EqAt A.in1 s m[j] i[j] (e j))->B A s (.ref l) (.ref b) (tr ((List.range (min m.size i.size)).all e&&m.size==i.size)))
  (hll: ∀ l b  m i  e ,s.heap.IsList l m->s.heap.IsList b i->m.size=i.size->A.units<cLine->(∀j  Q  (E:j<i.size),SeqAt.EqAt A.in1 s m[j] i[j] (e j))->B A s (.ref l) (.ref b) (tr ((List.range m.size).all e)))
  (hln: ∀ l b  m i ,s.heap.IsList l m->s.heap.IsList b i->(m.size !=i.size)=true->A.units<cLine->B A s (.ref l) (.ref b) (tr false))
  (I:↑1) (wd:Wd X.g α S H) (n)     (hu:A.units+(n+1)<cLine) (Q:DenX X.K α H a x) (E:DenX X.K α H b y) (rx:RelV x u) (ry:RelV y v) (h:HU S n a b=some k):B A s u v (tr k):=by
 have o:A.units<cLine:=by lia
 unfold HU at h
 cases N:SQ S a with
 |none=>rw[N]at h;cases h
 |some p=>
  cases D:SQ S b with
  |none=>rw[N,D]at h;cases h
  |some q=>
   rw[N,D]at h;have h:Zt _ p q=some k:=h;have Z:=λd f x y u v k a b c d' e=>JM I wd n A.in1 d f x y u v k #[0] a b c d' e
   cases p with
   |fl x'=>
    obtain⟨rfl,W⟩:=AV N Q
    cases q with
    |fl y'=>obtain⟨rfl,T⟩:=AV D E;cases h;exact hff _ _ _ _ rx ry W T
    |tp es=>
     obtain⟨b,O,rfl,C,w⟩:=AW D E;cases ry;cases h;obtain⟨t,_,pt,_⟩:=I.tuple C;exact(hft _ _ _ _ rx W pt o).1
    |ls es=>
     obtain⟨b,O,rfl,C,w⟩:=BA wd D E;cases ry;cases h;obtain⟨t,_,G,_⟩:=I.list C;exact(hfl _ _ _ _ rx W G.isList o).1
   |tp ds=>
    obtain⟨a,vs,rfl,s1,F⟩:=AW N Q;cases rx;obtain⟨t,J,pt,_⟩:=I.tuple s1
    cases q with
    |fl y'=>obtain⟨rfl,T⟩:=AV D E;cases h;exact(hft _ _ _ _ ry T pt o).2
    |tp es=>
     obtain⟨b,O,rfl,C,w⟩:=AW D E;cases ry;obtain⟨r,M,U,_⟩:=I.tuple C;rw[Cb]at h
     cases z:IX _ ds es with
     |none=>rw[z]at h;cases h
     |some bs=>
      rw[z]at h;cases h;have:=htt _ _ _ _ _ pt U o (HW Z F w J M z);have L:=EM z;rw[range_all (by rw[L];simp[<-J.length, <-M.length,F.length,w.length])]at this;have e3:(t.toArray.size==r.toArray.size)=(ds.length==es.length):=by simp[<-J.length, <-M.length,F.length,w.length]
      rw[e3]at this;exact this
    |ls es=>
     obtain⟨b,O,rfl,C,w⟩:=BA wd D E;cases ry;cases h;obtain⟨r,_,G,_⟩:=I.list C;exact(hlt _ _ _ _ G.isList pt o).2
   |ls ds=>
    obtain⟨a,vs,rfl,s1,F⟩:=BA wd N Q;cases rx;obtain⟨t,J,G,_⟩:=I.list s1
    cases q with
    |fl y'=>obtain⟨rfl,T⟩:=AV D E;cases h;exact(hfl _ _ _ _ ry T G.isList o).2
    |tp es=>
     obtain⟨b,O,rfl,C,w⟩:=AW D E;cases ry;cases h;obtain⟨r,_,pt,_⟩:=I.tuple C;exact(hlt _ _ _ _ G.isList pt o).1
    |ls es=>
     obtain⟨b,O,rfl,C,w⟩:=BA wd D E;cases ry;obtain⟨r,M,P,_⟩:=I.list C;rw[Cc]at h;by_cases L:ds.length=es.length
     .rw[iP L]at h
      cases z:IX _ ds es with
      |none=>rw[z]at h;cases h
      |some bs=>
       rw[z]at h;cases h;have hs:t.toArray.size=r.toArray.size:=by simp[<-J.length, <-M.length,F.length,w.length,L]
       have:=hll _ _ _ _ _ G.isList P.isList hs o (HW Z F w J M z);have Y:=EM z;rw[range_all (by rw[Y];simp[<-J.length,F.length,L])]at this;exact this
     .rw[iN0 L]at h;cases h;exact hln _ _ _ _ G.isList P.isList (by simpa [<-J.length, <-M.length,F.length,w.length]using L) o
def Zu(I:↑1)(wd:Wd X.g α S H)(n)(m:A.units+(n+1)<cLine)(f:DenX X.K α H a x)(j:DenX X.K α H b y)(o:RelV x u)(i:RelV y v)(h:HU S n a b=some k):SeqAt.RcAt A s u v k:=
 Wu (tr:=id) (λ_ _ _ _ a b c d=>(Lp a b c d).1) (λ_ _ _ _ a b c d=>⟨(SD a b c d).2.2.2.1,(SD a b c d).2.2.1⟩) (λ_ _ _ _ a b c d=>⟨(LF a b c d).2.2.2.1,(LF a b c d).2.2.1⟩)
  (λ_ _ _ _ a b c=>⟨SeqAt.RcAt.list_tuple a b c,SeqAt.RcAt.tuple_list b a c⟩) (λ_ _ _ _ _ a b c d=>SeqAt.RcAt.tuples a b c d) (λ_ _ _ _ _ a b c d e=>SeqAt.RcAt.lists a b c d e) (λ_ _ _ _ a b c d=>SeqAt.RcAt.lists_lengths a b c d)
  I wd n m f j o i h
def Zv(I:↑1)(wd:Wd X.g α S H)(n)(m:A.units+(n+1)<cLine)(f:DenX X.K α H a x)(j:DenX X.K α H b y)(o:RelV x u)(i:RelV y v)(h:HU S n a b=some k):SeqAt.RcNeAt A s u v (!k):=
 Wu (λ_ _ _ _ a b c d=>(Lp a b c d).2) (λ_ _ _ _ a b c d=>⟨(SD a b c d).2.2.2.2.2,(SD a b c d).2.2.2.2.1⟩) (λ_ _ _ _ a b c d=>⟨(LF a b c d).2.2.2.2.2,(LF a b c d).2.2.2.2.1⟩)
  (λ_ _ _ _ a b c=>⟨SeqAt.RcNeAt.list_tuple a b c,SeqAt.RcNeAt.tuple_list b a c⟩) (λ_ _ _ _ _ a b c d=>SeqAt.RcNeAt.tuples a b c d) (λ_ _ _ _ _ a b c d e=>SeqAt.RcNeAt.lists a b c d e) (λ_ _ _ _ a b c d=>SeqAt.RcNeAt.lists_lengths a b c d)
  I wd n m f j o i h
theorem Ew{α β:Type}: ∀{a c:List α}{b d:List β},a.length=b.length->c.length=d.length->a.zip b=c.zip d->a=c/\b=d
 |[],[],[],[],_,_,_=>⟨rfl,rfl⟩
 |[],_::_,[],_::_,_,_,e=>by simp at e
 |_::_,[],_::_,[],_,_,e=>by simp at e
 |x::a,y::c,z::b,w::d,h1,h2,e=>by simp only[zip_cons_cons,List.cons.injEq,Prod.mk.injEq]at e;obtain⟨rfl,rfl⟩:=Ew (by simpa using h1) (by simpa using h2) e.2;exact⟨by rw[e.1.1],by rw[e.1.2]⟩
mutual
theorem Den.inj(I:↑1)(wd:Wd X.g α S H): ∀{d f:MV}{v:V},Den X.K α H d v->Den X.K α H f v->d=f
 |.non,f,v,h,h'=>by cases iW h;cases f<;>first |rfl|(have:=rK h';cases this;done)|(have:=jS h';cases this;done)|(have:=kM h';cases this;done)|(have:=eV h';cases this;done)|(obtain⟨_,_,e,_⟩:=jD h';cases e;done)|(obtain⟨_,_,e,_⟩:=eW h';cases e;done)|(obtain⟨_,e,_⟩:=nP h';cases e;done)|(obtain⟨_,_,_,_,_,e,_⟩:=eU h';cases e;done)
 |.bl b,f,v,h,h'=>by cases rK h;cases f<;>first |(have:=rK h';cases this;rfl;done)|(have:=iW h';cases this;done)|(have:=jS h';cases this;done)|(have:=kM h';cases this;done)|(have:=eV h';cases this;done)|(obtain⟨_,_,e,_⟩:=jD h';cases e;done)|(obtain⟨_,_,e,_⟩:=eW h';cases e;done)|(obtain⟨_,e,_⟩:=nP h';cases e;done)|(obtain⟨_,_,_,_,_,e,_⟩:=eU h';cases e;done)
 |.int b,f,v,h,h'=>by cases jS h;cases f<;>first |(have:=jS h';cases this;rfl;done)|(have:=iW h';cases this;done)|(have:=rK h';cases this;done)|(have:=kM h';cases this;done)|(have:=eV h';cases this;done)|(obtain⟨_,_,e,_⟩:=jD h';cases e;done)|(obtain⟨_,_,e,_⟩:=eW h';cases e;done)|(obtain⟨_,e,_⟩:=nP h';cases e;done)|(obtain⟨_,_,_,_,_,e,_⟩:=eU h';cases e;done)
 |.str b,f,v,h,h'=>by cases kM h;cases f<;>first |(have:=kM h';rw[HL (V.str.inj this)];done)|(have:=iW h';cases this;done)|(have:=rK h';cases this;done)|(have:=jS h';cases this;done)|(have:=eV h';cases this;done)|(obtain⟨_,_,e,_⟩:=jD h';cases e;done)|(obtain⟨_,_,e,_⟩:=eW h';cases e;done)|(obtain⟨_,e,_⟩:=nP h';cases e;done)|(obtain⟨_,_,_,_,_,e,_⟩:=eU h';cases e;done)
 |.typ b,f,v,h,h'=>by cases eV h;cases f<;>first |(have:=eV h';cases this;rfl;done)|(have:=iW h';cases this;done)|(have:=rK h';cases this;done)|(have:=jS h';cases this;done)|(have:=kM h';cases this;done)|(obtain⟨_,_,e,_⟩:=jD h';cases e;done)|(obtain⟨_,_,e,_⟩:=eW h';cases e;done)|(obtain⟨_,e,_⟩:=nP h';cases e;done)|(obtain⟨_,_,_,_,_,e,_⟩:=eU h';cases e;done)
 |.tup ds,f,v,h,h'=>by
  obtain⟨a,Q,rfl,s1,A⟩:=jD h
  cases f with
  |tup es=>
   obtain⟨p,q,i,u,r⟩:=jD h';cases i;cases I.tuple_inj s1 u;rw[DenL.inj I wd A r]
  |scr es=>obtain⟨p,q,i,u,r⟩:=eW h';cases i;exact(HV I u.l s1).elim
  |loc l=>
   obtain⟨p,i,j⟩:=nP h';cases i;obtain⟨J,k,B,t⟩:=wd.mem (ô j);rcases s1 with(s1|⟨o,s1⟩)|⟨o,its,n,s1,_⟩
   .rw[k]at s1;exact absurd (å s1) (B _)
   .rw[k]at s1;exact(let ⟨_,z⟩:=t _ _ (å s1);by cases z)
   .have:=(I.bs a o (I.mod.kin a o s1)).2;rw[k]at this;cases this
  |non=>cases iW h'
  |bl b=>cases rK h'
  |int b=>cases jS h'
  |str b=>cases kM h'
  |typ b=>cases eV h'
  |obj c ns es=>
   obtain⟨p,C,G,q,L,i,j,_⟩:=eU h';cases i;rcases s1 with(s1|⟨o,s1⟩)|⟨o,its,n,s1,_⟩
   .rw[j]at s1;cases s1
   .rw[j]at s1;cases s1
   .have:=(I.bs a o (I.mod.kin a o s1)).2;rw[j]at this;cases this
 |.scr ds,f,v,h,h'=>by
  obtain⟨a,Q,rfl,s1,A⟩:=eW h
  cases f with
  |scr es=>
   obtain⟨p,q,i,u,r⟩:=eW h';cases i;cases I.list_inj s1.l u.l;rw[DenL.inj I wd A r]
  |tup es=>obtain⟨p,q,i,u,r⟩:=jD h';cases i;exact(HV I s1.l u).elim
  |loc l=>
   obtain⟨p,i,j⟩:=nP h';cases i;obtain⟨J,k,B,t⟩:=wd.mem (ô j);rcases s1 with⟨o,s1⟩|⟨o,its,n,s1,_⟩
   .rw[k]at s1;exact(let ⟨_,z⟩:=t _ _ (å s1);by cases z)
   .have:=(I.bs a o (I.mod.kin a o s1)).2;rw[k]at this;cases this
  |non=>cases iW h'
  |bl b=>cases rK h'
  |int b=>cases jS h'
  |str b=>cases kM h'
  |typ b=>cases eV h'
  |obj c ns es=>
   obtain⟨p,C,G,q,L,i,j,_⟩:=eU h';cases i;rcases s1 with⟨o,s1⟩|⟨o,its,n,s1,_⟩
   .rw[j]at s1;cases s1
   .have:=(I.bs a o (I.mod.kin a o s1)).2;rw[j]at this;cases this
 |.loc l,f,v,h,h'=>by
  obtain⟨a,rfl,E⟩:=nP h;obtain⟨J,k,B,t⟩:=wd.mem (ô E)
  cases f with
  |loc m=>
   obtain⟨p,i,j⟩:=nP h';cases i;by_cases y:l=m
   .rw[y]
   .exact absurd rfl (wd.ne E j y)
  |tup es=>
   obtain⟨p,q,i,s1,r⟩:=jD h';cases i;rcases s1 with(s1|⟨o,s1⟩)|⟨o,its,n,s1,_⟩
   .rw[k]at s1;exact absurd (å s1) (B _)
   .rw[k]at s1;exact(let ⟨_,z⟩:=t _ _ (å s1);by cases z)
   .have:=(I.bs a o (I.mod.kin a o s1)).2;rw[k]at this;cases this
  |scr es=>
   obtain⟨p,q,i,s1,r⟩:=eW h';cases i;rcases s1 with⟨o,s1⟩|⟨o,its,n,s1,_⟩
   .rw[k]at s1;exact(let ⟨_,z⟩:=t _ _ (å s1);by cases z)
   .have:=(I.bs a o (I.mod.kin a o s1)).2;rw[k]at this;cases this
  |non=>cases iW h'
  |bl b=>cases rK h'
  |int b=>cases jS h'
  |str b=>cases kM h'
  |typ b=>cases eV h'
  |obj c ns es=>
   obtain⟨p,C,G,q,L,i,j,_⟩:=eU h';cases i;rw[k]at j;exact(let ⟨_,z⟩:=t _ _ (å j);by cases z)
 |.obj c ns ds,f,v,h,h'=>by
  obtain⟨a,C,G,q,L,rfl,j,W,N,T,A⟩:=eU h
  cases f with
  |obj c' ns' es=>
   obtain⟨p,C2,M,O,U,i,w,P,D,F,r⟩:=eU h';cases i;rw[j]at w;injection w with w
   injection w with _ w
   injection w with e1 i e3
   subst e1;rw[N]at D;cases D;obtain⟨rfl,rfl⟩:=Ew T F e3;rw[DenL.inj I wd A r]
  |tup es=>
   obtain⟨p,q,i,s1,r⟩:=jD h';cases i;rcases s1 with(s1|⟨o,s1⟩)|⟨o,its,n,s1,_⟩
   .rw[j]at s1;cases s1
   .rw[j]at s1;cases s1
   .have:=(I.bs a o (I.mod.kin a o s1)).2;rw[j]at this;cases this
  |scr es=>
   obtain⟨p,q,i,s1,r⟩:=eW h';cases i;rcases s1 with⟨o,s1⟩|⟨o,its,n,s1,_⟩
   .rw[j]at s1;cases s1
   .have:=(I.bs a o (I.mod.kin a o s1)).2;rw[j]at this;cases this
  |loc l=>
   obtain⟨p,i,E⟩:=nP h';cases i;obtain⟨J,k,B,t⟩:=wd.mem (ô E);rw[k]at j;exact(let ⟨_,z⟩:=t _ _ (å j);by cases z)
  |non=>cases iW h'
  |bl b=>cases rK h'
  |int b=>cases jS h'
  |str b=>cases kM h'
  |typ b=>cases eV h'
theorem DenL.inj(I:↑1)(wd:Wd X.g α S H): ∀{ds fs:R0}{b:List V},DenL X.K α H ds b->DenL X.K α H fs b->ds=fs
 |[],fs,b,h,h'=>by
  cases h.isnil
  cases fs with
  |nil=>rfl
  |cons f fs=>obtain⟨_,_,e,_⟩:=h'.uncons;cases e
 |d::ds,fs,b,h,h'=>by
  obtain⟨v,r,rfl,a,l⟩:=h.uncons
  cases fs with
  |nil=>cases h'.isnil
  |cons f fs=>
   obtain⟨k,m,e,j,i⟩:=h'.uncons;cases e;rw[Den.inj I wd a j,DenL.inj I wd l i]
end
end
inductive LexR(A:Around)(s:Ĵ):List ĵ->List ĵ->Bool->Prop
 |nn:LexR A s [] [] false
 |nc (x xs):LexR A s [] (x::xs) true
 |cn (y ys):LexR A s (y::ys) [] false
 |eq {y x ys xs k}:SeqAt.EqAt A s y x true->LexR A s ys xs k->LexR A s (y::ys) (x::xs) k
 |ne {y x ys xs k}:SeqAt.EqAt A s y x false->(∀(prog:Ķ)(w:World)(E Q:VP),Q (.bool k) s->wpAny (model prog w) A (richCompare .Lt y x) Q E s)->LexR A s (y::ys) (x::xs) k
section
open PySem.SeqAt
open PySem.AutoSeq1 (wpAny_loadPart')
open PySem.MeetsSeq PySem.MeetsSeq2 PySem.MeetsSeq3
theorem Cd(l b)(its its2)(n n2)(dd dd2)(sl sl2)(k):
  Meets (Builtin.«tuple.__lt__» ⟨[.ref l,.ref b],[]⟩)
   (λA R s=>s.heap.get? l=some {cls:=.type "tuple",dict:=dd,data:=.seq its n,slots:=sl}/\s.heap.get? b=some {cls:=.type "tuple",dict:=dd2,data:=.seq its2 n2,slots:=sl2}/\
    LexR A.in1 s its.toList its2.toList k/\R (.ok (.ret (.bool k))) s):=
 .of_wp λprog w A R s h=>by
  obtain⟨q,g,d,r,os⟩:=s;obtain⟨v,t,j,h⟩:=h;have C:=AutoSeq1.sub_tuple_tuple
  wp_walk using wpAny_loadPart' v,wpAny_loadPart' t,wpAny_forIn_list _ (λrest b p=>b.1=none/\p=⟨q,g,d,r,os⟩/\ ∃(m ws:A0),rest=m.zip ws/\
   LexR A.in1 ⟨q,g,d,r,os⟩ m ws k/\m.length+its2.size=ws.length+its.size) _
  case turn=>
   rintro⟨y,x⟩ rest b p ⟨i,rfl,m,ws,e,f,a⟩
   cases f with
   |nn=>rw[List.zip_nil_left]at e;cases e
   |nc x xs=>rw[List.zip_nil_left]at e;cases e
   |cn y ys=>rw[List.zip_nil_right]at e;cases e
   |@eq y' x' ys xs k' he hr=>
    rw[zip_cons_cons]at e;injection e with hyx hrest
    injection hyx with hy j
    subst hy j;simp only[lC0]at a;refine wB (he prog w _ _ ?_)
    wp_walk
    exact⟨rfl,rfl,_,_,hrest,hr,by lia⟩
   |@ne y' x' ys xs k' he hr=>
    rw[zip_cons_cons]at e;injection e with hyx hrest
    injection hyx with hy j
    subst hy j;refine wB (he prog w _ _ ?_);have o:=hr prog w
    wp_walk using o
    exact⟨_,rfl,by simpa using h⟩
  case fin=>
   rintro⟨B,z⟩ p ⟨i,rfl,m,ws,e,f,a⟩;simp only at i;subst i
   have u:k=decide (its.size<its2.size):=by
    cases f with
    |nn=>simp only[ë]at a;exact(dF0 #[0]).symm
    |nc x xs=>simp only[ë,lC0]at a;exact(dT0 #[0]).symm
    |cn y ys=>simp only[ë,lC0]at a;exact(dF0 #[0]).symm
    |eq he hr=>rw[zip_cons_cons]at e;cases e
    |ne he hr=>rw[zip_cons_cons]at e;cases e
   rw[u]at h
   wp_walk
   exact⟨_,rfl,by simpa [Builtin.Tuple.tupleCompareSizes]using h⟩
  case h=>
   exact⟨rfl,rfl,_,_,rfl,j,by simp;lia⟩
end
def Ma(v:IsTup s.heap l its)(C:IsTup s.heap b its2)(B:LexR A.in1 s its.toList its2.toList k)(y:A.units<cLine)(prog)(w)(E Q)(h:Q (.bool k) s):
  wpAny (model prog w) A (richCompare .Lt (.ref l) (.ref b)) Q E s:=by
 obtain⟨⟨p,r,j,q⟩,o,u,n,z⟩:=id v;obtain⟨⟨m,i,_,d⟩,a,f,t,e⟩:=id C;subst u z f e
 exact richCompare_meets_room ⟨_,o,rfl⟩ ⟨_,a,rfl⟩ PySem.F.slot_tuple_lt PySem.F.entry_tuple_lt (PySem.F.args_tuple_lt_2 _ _) (Cd l b its its2 n t r i q d k)
  ⟨o,a,B,show Value.bool k≠Value.notImplemented/\Q _ s from⟨(λx=>nomatch x),h⟩⟩ y
noncomputable def Mb(e l:MV->MV->Option Bool):List MV->List MV->Option Bool
 |[],[]=>some false
 |[],_::_=>some true
 |_::_,[]=>some false
 |d::ds,f::fs=>(e d f).bind λk=>if k=true then Mb e l ds fs else l d f
def Kj(S:Sto):Nat->MV->MV->Option Bool
 |0,_,_=>none
 |n+1,.int i,.int j=>some (decide (i<j))
 |n+1,.str x,.str y=>some (decide (x<y))
 |n+1,.tup ds,.tup es=>Mb (eqv S n) (Kj S n) ds es
 |_,_,_=>none
section
variable{X:Cx}
theorem Wv(o: ∀d f x y u v k,Den X.K α H d x->Den X.K α H f y->RelV x u->RelV y v->e d f=some k->SeqAt.EqAt A s u v k)
  (hl: ∀d f x y u v k,Den X.K α H d x->Den X.K α H f y->RelV x u->RelV y v->l d f=some k-> ∀ prog  w  E Q ,Q (.bool k) s->wpAny (model prog w) A (richCompare .Lt u v) Q E s):
  ∀{ds fs}{t q}{j i}{k},DenL X.K α H ds t->DenL X.K α H fs q->Vals t j->Vals q i->Mb e l ds fs=some k->LexR A s j i k
 |[],[],_,_,_,_,k,l1,l2,r1,r2,h=>by cases l1.isnil;cases l2.isnil;cases r1;cases r2;cases h;exact .nn
 |[],f::fs,_,_,_,_,k,l1,l2,r1,r2,h=>by
  cases l1.isnil;obtain⟨v,r,rfl,a,l⟩:=l2.uncons;cases r1
  cases r2 with
  |cons a b=>cases h;exact .nc _ _
 |d::ds,[],_,_,_,_,k,l1,l2,r1,r2,h=>by
  cases l2.isnil;obtain⟨v,r,rfl,a,l⟩:=l1.uncons;cases r2
  cases r1 with
  |cons a b=>cases h;exact .cn _ _
 |d::ds,f::fs,_,_,_,_,k,l1,l2,r1,r2,h=>by
  obtain⟨v,r,rfl,a,n⟩:=l1.uncons;obtain⟨C,B,rfl,m,p⟩:=l2.uncons
  cases r1 with
  |cons b1 c1=>
   cases r2 with
   |cons b2 c2=>
    unfold Mb at h
    cases z:e d f with
    |none=>rw[z]at h;cases h
    |some kk=>
     rw[z]at h;have h:(if kk=true then Mb e l ds fs else l d f)=some k:=h
     cases kk with
     |true=>
      exact .eq (o d f _ _ _ _ _ a m b1 b2 z) (Wv o hl n p c1 c2 h)
     |false=>
      exact .ne (o d f _ _ _ _ _ a m b1 b2 z) (hl d f _ _ _ _ _ a m b1 b2 h)
theorem Mc(I:↑1)(wd:Wd X.g α S H): ∀ n  A  d f  x y  u v  k ,A.units+n<cLine->Den X.K α H d x->Den X.K α H f y->RelV x u->RelV y v->Kj S n d f=some k->
  ∀ prog  w  E Q ,Q (.bool k) s->wpAny (model prog w) A (richCompare .Lt u v) Q E s
 |0,_,_,_,_,_,_,_,_,_,_,_,_,_,h=>by cases h
 |n+1,A,d,f,x,y,u,v,k,hu,h1,h2,rx,ry,h=>by
  intro prog w E Q j;unfold Kj at h;split at h
  .cases h
  .cases h;cases jS h1;cases jS h2;obtain⟨t,rfl⟩:=rx;obtain⟨p,rfl⟩:=ry;exact(PyProof.Rows.lt_int j:wpAny _ A _ Q E s)
  .cases h;cases kM h1;cases kM h2;obtain⟨t,rfl⟩:=rx;obtain⟨p,rfl⟩:=ry;refine(PySem.P.lt_str ?_:wpAny _ A _ Q E s);exact j
  .rename_i J M es C;obtain⟨a,L,rfl,s1,B⟩:=jD h1;obtain⟨b,G,rfl,z,r⟩:=jD h2;cases rx;cases ry;obtain⟨q,F,pt,_⟩:=I.tuple s1;obtain⟨o,D,i,_⟩:=I.tuple z;cases C;refine Ma pt i ?_ #[0] prog w E Q j
   exact Wv (λd f x y u v k a b c m e=>JM I wd n A.in1 d f x y u v k (show A.units+1+n<cLine by lia) a b c m e)
    (λd f x y u v k a b c m e=>Mc I wd n A.in1 d f x y u v k (show A.units+1+n<cLine by lia) a b c m e) B r F D h
  .cases h
end
section
variable{X:Cx}{b c e:Expr}{es:O0}{f h:AX}
noncomputable def Ww(C:Int->Int->Prop)[∀i j,Decidable (C i j)](g:Int->Int->Int):Er->Er->Sto->R Er
 |.val (.int i),.val (.int j),S=>if C i j then .ok (.val (.int (g i j))) S else .no
 |_,_,_=>.no
noncomputable def zAG(g:Int->Int->Bool):Er->Er->Sto->R Er
 |.val (.int i),.val (.int j),S=>.ok (.val (.bl (g i j))) S
 |_,_,_=>.no
def Ce[∀i j,Decidable (C i j)]{g:Int->Int->Int}(h: ∀i j,C i j->C' i j):QQ X W (rI C' λi j=>.int (g i j)) (Ww C g):=by
 intro p q x y α S H Q wd b e a;unfold Ww at a;split at a
 .split at a
  .rename_i d;exact⟨_,_,xT b,xT e,h _ _ d,Post.val a wd (xD _)⟩
  .exact a.elim
 .exact a.elim
def Su{g:Int->Int->Int}:QQ X W (Ro λi j=>.int (g i j)) (Ww (λ_ _=>True) g):=by
 intro p q x y α S H Q wd b d a;unfold Ww at a;split at a
 .rw[iP trivial]at a;exact⟨_,_,xT b,xT d,Post.val a wd (xD _)⟩
 .exact a.elim
def Md{g:Int->Int->Bool}:QQ X W (Ro λi j=>.bl (g i j)) (zAG g):=by
 intro p q x y α S H Q wd b d a;unfold zAG at a;split at a
 .exact⟨_,_,xT b,xT d,Post.val a wd (wN _)⟩
 .exact a.elim
abbrev Me:=Ww (λ_ _=>True) λi j=>i - j
def Cf(i:yF X W a f)(e:yF X W b g):yF X W (.BinOp a .Sub b pos) (λd S=>(f d S).bind λp j=>(g d j).bind λq h=>Me p q h):=SK Yu Su i e
def Zw(_ j:Int):Prop:=0<j/\j.natAbs.log2<9000
instance(i j:Int):Decidable (Zw i j):=inferInstanceAs (Decidable (_/\_))
abbrev nU:=Ww Zw λi j=>i / j
theorem Mf:OpR X (binaryOp .FloorDiv) (rI Zw λi j=>.int (i / j)):=zAF λi j _ _ _ _ _ a q=>by have e:=Int.fdiv_eq_ediv_of_nonneg i (Int.le_of_lt a.1);refine floordiv_int (by have:=a.1;lia) ?_ (.inl (PyProof.noPylong_of_log2 a.2));rw[e];exact q
def wO(n:yF X W a f)(m:yF X W b g):yF X W (.BinOp a .FloorDiv b pos) (λd S=>(f d S).bind λp k=>(g d k).bind λq e=>nU p q e):=SK Mf (Ce λi j h=>h) n m
abbrev jU:=Ww (λ_ j=>0<j) λi j=>i % j
def yU(n:yF X W a f)(m:yF X W b g):yF X W (.BinOp a .Mod b pos) (λd S=>(f d S).bind λp k=>(g d k).bind λq e=>jU p q e):=SK Yv (Ce λi j h=>h) n m
def Mg(i j:Int):Prop:=0<=j/\(Builtin.Int.intBits i:Int) * j<=2 ^ 27
instance(i j:Int):Decidable (Mg i j):=inferInstanceAs (Decidable (_/\_))
abbrev JN:=Ww Mg λi j=>i ^ j.toNat
def Sv:OpR X (binaryOp .Pow) (rI Mg λi j=>.int (i ^ j.toNat)):=zAF λ_ _ _ _ _ _ _ a q=>pow_int a.1 a.2 q
def BV(n:yF X W a f)(m:yF X W b g):yF X W (.BinOp a .Pow b pos) (λd S=>(f d S).bind λp k=>(g d k).bind λq e=>JN p q e):=SK Sv (Ce λi j h=>h) n m
def shlC(i j:Int):Prop:=0<=j/\j<=1000000/\i.natAbs<2 ^ 64
instance(i j:Int):Decidable (shlC i j):=inferInstanceAs (Decidable (_/\_/\_))
noncomputable def Sw(S:Sto):Er->Option (List MV)
 |.new ds=>some ds
 |.val (.loc l)=>match S[l]? with
  |some (.lst ds)=>some ds
  |_=>none
 |_=>none
def Cg(wd:Wd X.g α S H)(e:Sw S r=some ds)(d:DenX X.K α H r x): ∃a f,x=.ref a/\H a=some (.lst f)/\DenL X.K α H ds f:=by
 unfold Sw at e;split at e
 .cases e;obtain⟨b,f,rfl,h,_,l⟩:=d;exact⟨b,f,rfl,h,l⟩
 .rename_i n;obtain⟨a,rfl,h⟩:=pF d;split at e
  .rename_i es j;cases e;obtain⟨f,i,l⟩:=wd.obj n a _ h j;exact⟨a,f,rfl,i,l⟩
  .cases e
 .cases e
def Ey(p q:Er)(S:Sto):R Er:=match Sw S p,Sw S q with
 |some x,some y=>if x.length+y.length<=sizeLine then .ok (.new (x++y)) S else .no
 |_,_=>.no
def yH:Er->Er->Sto->R Er
 |.val (.int i),.val (.int j),S=>.ok (.val (.int (i+j))) S
 |.val (.str x),.val (.str y),S=>if x.length+y.length<=sizeLine then .ok (.val (.str (x++y))) S else .no
 |.val (.tup x),.val (.tup y),S=>if x.length+y.length<=sizeLine then .ok (.val (.tup (x++y))) S else .no
 |p,q,S=>Ey p q S
def Mh:OpR X (binaryOp .Add) (λx y H Q=> ∃a b m,x=.ref a/\y=.ref b/\SqT X.K H a []/\SqT X.K H b m/\Q (.ref b) H):=by
 intro pins s σ H x y v u Q I G w h;obtain⟨a,b,m,rfl,rfl,L,J,q⟩:=h;cases G;cases w;obtain⟨A,N,p1,_⟩:=I.tuple L;obtain⟨o,O,p2,_⟩:=I.tuple J;have M:=N.nil_iff.mpr rfl;subst M;obtain⟨⟨t,E,k,D⟩,r,B,n,C⟩:=id p1;obtain⟨⟨p,j,_,e⟩,d,i,z,f⟩:=id p2;subst B C i f
 exact concat_meets ⟨_,r,rfl⟩ ⟨_,d,rfl⟩ noFill_tuple_add seq_tuple_add PySem.F.slot_tuple_add PySem.F.entry_tuple_add (PySem.F.args_tuple_add_2 _ _)
  (tuple_addW0 a b _ _ n z E j D e rfl) ⟨r,d,⟨.ref b,H,I,rfl,q⟩⟩
def zT(L:yF X W a f)(J:yF X W b g):yF X W (.BinOp a .Add b pos) (λB S=>(f B S).bind λp E=>(g B E).bind λq G=>yH p q G):=by
 refine SK (Yt.or (Bl.or (Zg.or (Rw.or Mh)))) ?_ L J;intro p q x y α S H Q wd j m d;unfold yH at d;split at d
 .exact .inl ⟨_,_,xT j,xT m,Post.val d wd (xD _)⟩
 .split at d
  .rename_i i;refine .inr (.inl ⟨_,_,wA j,wA m,by rw[wD];exact i,?_⟩);rw[UR];exact Post.val d wd (gT _)
  .exact d.elim
 .split at d
  .rename_i z A i;obtain⟨r,n,rfl,s1,h⟩:=nQ j;obtain⟨o,k,rfl,u,e⟩:=nQ m;by_cases w:n=[]
   .subst w;have v:=h.length;refine .inr (.inr (.inr (.inr ⟨r,o,k,rfl,rfl,s1,u,?_⟩)));have:z=[]:=by cases z with |nil=>rfl|cons _ _=>simp at v
    subst this;exact Post.val d wd (rH u e)
   .refine .inr (.inr (.inr (.inl ⟨r,o,n,k,rfl,rfl,s1,u,w,by rw[h.length,e.length];exact i,λs=>?_,λs p t=>Post.newt d wd t (h.append e)⟩)));subst s;have v:=e.length;have:A=[]:=by cases A with |nil=>rfl|cons _ _=>simp at v
    subst this;rw[aN]at d;exact Post.val d wd (rH s1 h)
  .exact d.elim
 .unfold Ey at d;split at d
  .rename_i F D C K;split at d
   .rename_i i;obtain⟨r,n,rfl,s,h⟩:=Cg wd C j;obtain⟨o,k,rfl,I,e⟩:=Cg wd K m;exact .inr (.inr (.inl ⟨r,o,n,k,rfl,rfl,s,I,by rw[h.length,e.length];exact i,λp t=>Post.newl d wd t (h.append e)⟩))
   .exact d.elim
  .exact d.elim
def mulC(i j:Int):Prop:=(-(2 ^ 64)<i/\i<2 ^ 64)\/(-(2 ^ 64)<j/\j<2 ^ 64)\/(i.natAbs.log2<4000/\j.natAbs.log2<4000)
theorem Ez(h:i.natAbs.log2<4000):Builtin.Int.intBits i<=2 ^ 20:=by unfold Builtin.Int.intBits;split<;>lia
def mulC.ok(h:mulC i j):IntMulOk i j:=by
 rcases h with h|h|⟨h1,h2⟩
 .exact CMul.ok (.inl h)
 .exact CMul.ok (.inr h)
 .exact .of_bits (Ez h1) (Ez h2)
def Sx:OpR X (binaryOp .Mult) (rI mulC λi j=>.int (i * j)):=zAF λ_ _ _ _ _ _ _ a q=>mul_int q a.ok
instance(i j:Int):Decidable (mulC i j):=inferInstanceAs (Decidable (_\/_\/_))
def Wx(p:Er)(k:Int)(S:Sto):R Er:=match Sw S p with
 |some x=>if 0<=k/\k<100000/\x.length * k.toNat<=sizeLine then .ok (.new (List.replicate k.toNat x).flatten) S else .no
 |none=>.no
def sH:Er->Er->Sto->R Er
 |.val (.int i),.val (.int j),S=>if mulC i j then .ok (.val (.int (i * j))) S else .no
 |.val (.str x),.val (.int k),S=>if 0<=k/\k<1000/\x.length<=1000 then .ok (.val (.str (QP x k))) S else .no
 |p,.val (.int k),S=>Wx p k S
 |_,_,_=>.no
theorem DenL.rep{K:P0}(l:DenL K α H ds vs): ∀k:Nat,DenL K α H (List.replicate k ds).flatten (List.replicate k vs).flatten
 |0=>xB
 |k+1=>by rw[ě];exact l.append (DenL.rep l k)
theorem vK(v:yF X W a f)(u:yF X W b g):yF X W (.BinOp a .Mult b pos) (λk S=>(f k S).bind λp t=>(g k t).bind λq r=>sH p q r):=by
 refine SK (Sx.or (Bs.or Zh)) ?_ v u;intro p q x y α S H Q wd h i d;unfold sH at d;split at d
 .split at d
  .rename_i e;exact .inl ⟨_,_,xT h,xT i,e,Post.val d wd (xD _)⟩
  .exact d.elim
 .split at d
  .rename_i e;exact .inr (.inl ⟨_,_,wA h,xT i,e.1,e.2.1,e.2.2,Post.val d wd (gT _)⟩)
  .exact d.elim
 .unfold Wx at d;split at d
  .rename_i z m;split at d
   .rename_i e;obtain⟨o,w,rfl,s,j⟩:=Cg wd m h;exact .inr (.inr ⟨o,_,w,rfl,xT i,s,by lia,by lia,by rw[j.length];exact e.2.2,λp n=>Post.newl d wd n (j.rep _)⟩)
   .exact d.elim
  .exact d.elim
 .exact d.elim
noncomputable def zR:Nat:=40
def pB(p q:Er)(S:Sto):R Er:=match HU S zR p q with
 |some k=>.ok (.val (.bl k)) S
 |none=>.no
def QL(p q:Er)(S:Sto):R Er:=match HU S zR p q with
 |some k=>.ok (.val (.bl !k)) S
 |none=>.no
theorem Mi(j:X.A.units+64<cLine):OpR X (compareOp .Eq) (λx y H Q=> ∃α S p q k,Wd X.g α S H/\DenX X.K α H p x/\DenX X.K α H q y/\HU S zR p q=some k/\Q (.bl k) H):=by intro pins s σ H x y v u Q I d b h;obtain⟨α,S,p,q,k,wd,a,f,e,i⟩:=h;exact Zu I wd zR (by unfold zR;lia) a f d b e X.prog X.w _ _ ⟨.bl k,H,I,rfl,i⟩
theorem Mj(j:X.A.units+64<cLine):OpR X (compareOp .NotEq) (λx y H Q=> ∃α S p q k,Wd X.g α S H/\DenX X.K α H p x/\DenX X.K α H q y/\HU S zR p q=some k/\Q (.bl (!k)) H):=by intro pins s σ H x y v u Q I d b h;obtain⟨α,S,p,q,k,wd,a,f,e,i⟩:=h;exact Zv I wd zR (by unfold zR;lia) a f d b e X.prog X.w _ _ ⟨.bl (!k),H,I,rfl,i⟩
def Fa:QQ X W (λx y H Q=> ∃α S p q k,Wd X.g α S H/\DenX X.K α H p x/\DenX X.K α H q y/\HU S zR p q=some k/\Q (.bl k) H) pB:=by
 intro p q x y α S H Q wd b d a;unfold pB at a;split at a
 .rename_i k e;exact⟨α,S,p,q,k,wd,b,d,e,Post.val a wd (wN _)⟩
 .exact a.elim
def Fc:QQ X W (λx y H Q=> ∃α S p q k,Wd X.g α S H/\DenX X.K α H p x/\DenX X.K α H q y/\HU S zR p q=some k/\Q (.bl (!k)) H) QL:=by
 intro p q x y α S H Q wd b d a;unfold QL at a;split at a
 .rename_i k e;exact⟨α,S,p,q,k,wd,b,d,e,Post.val a wd (wN _)⟩
 .exact a.elim
def rL(i:X.A.units+64<cLine)(k:yF X W a f)(j:yF X W b g):yF X W (.Compare a [.Eq] [b] pos) (λd S=>(f d S).bind λp h=>(g d h).bind λq e=>pB p q e):=JF (Mi i) Fa k j
def pI(i:X.A.units+64<cLine)(k:yF X W a f)(j:yF X W b g):MS X W (.Compare a [.Eq] [b] pos) (λd S=>((f d S).bind λp h=>(g d h).bind λq e=>pB p q e).bind bC):=BS (Mi i) Fa k j
def Wy(i:X.A.units+64<cLine)(k:yF X W a f)(j:yF X W b g):yF X W (.Compare a [.NotEq] [b] pos) (λd S=>(f d S).bind λp h=>(g d h).bind λq e=>QL p q e):=JF (Mj i) Fc k j
def LI(i:X.A.units+64<cLine)(k:yF X W a f)(j:yF X W b g):MS X W (.Compare a [.NotEq] [b] pos) (λd S=>((f d S).bind λp h=>(g d h).bind λq e=>QL p q e).bind bC):=BS (Mj i) Fc k j
def MW:Er->Er->Sto->R Er
 |.val d,.val f,S=>match Kj S zR d f with
  |some k=>.ok (.val (.bl k)) S
  |none=>.no
 |_,_,_=>.no
theorem BW(n:X.A.units+64<cLine):OpR X (compareOp .Lt) (λx y H Q=> ∃α S d f k,Wd X.g α S H/\Den X.K α H d x/\Den X.K α H f y/\Kj S zR d f=some k/\Q (.bl k) H):=by intro pins s σ H x y v u Q I i b h;obtain⟨α,S,d,f,k,wd,a,j,e,m⟩:=h;exact Mc I wd zR X.A d f x y v u k (by unfold zR;lia) a j i b e X.prog X.w _ _ ⟨.bl k,H,I,rfl,m⟩
def rM:QQ X W (λx y H Q=> ∃α S d f k,Wd X.g α S H/\Den X.K α H d x/\Den X.K α H f y/\Kj S zR d f=some k/\Q (.bl k) H) MW:=by
 intro p q x y α S H Q wd b h a;unfold MW at a;split at a
 .split at a
  .rename_i k e;exact⟨α,S,_,_,k,wd,b,h,e,Post.val a wd (wN _)⟩
  .exact a.elim
 .exact a.elim
def V5(i:X.A.units+64<cLine)(k:yF X W a f)(j:yF X W b g):yF X W (.Compare a [.Lt] [b] pos) (λd S=>(f d S).bind λp h=>(g d h).bind λq e=>MW p q e):=JF (BW i) rM k j
def YR(i:X.A.units+64<cLine)(k:yF X W a f)(j:yF X W b g):MS X W (.Compare a [.Lt] [b] pos) (λd S=>((f d S).bind λp h=>(g d h).bind λq e=>MW p q e).bind bC):=BS (BW i) rM k j
abbrev Sy:=zAG λi j=>decide (j<i)
def V6(i:yF X W a f)(e:yF X W b g):yF X W (.Compare a [.Gt] [b] pos) (λd S=>(f d S).bind λp j=>(g d j).bind λq h=>Sy p q h):=JF Wm Md i e
def Fe(i:yF X W a f)(e:yF X W b g):MS X W (.Compare a [.Gt] [b] pos) (λd S=>((f d S).bind λp j=>(g d j).bind λq h=>Sy p q h).bind bC):=BS Wm Md i e
noncomputable def QM:Er->Er->Sto->R Er
 |.val (.int i),.val (.int j),S=>.ok (.val (.bl (decide (i<=j)))) S
 |.val (.str x),.val (.str y),S=>.ok (.val (.bl (!decide (y<x)))) S
 |_,_,_=>.no
def JO:QQ X W (λx y H Q=>Ro (λi j=>.bl (decide (i<=j))) x y H Q\/(∃i j,x=.str i/\y=.str j/\Q (.bl (!decide (j.cps.toList<i.cps.toList))) H)) QM:=by
 intro p q x y α S H Q wd b d a;unfold QM at a;split at a
 .exact .inl ⟨_,_,xT b,xT d,Post.val a wd (wN _)⟩
 .refine .inr ⟨_,_,wA b,wA d,?_⟩;rw[vH,vH];exact Post.val a wd (wN _)
 .exact a.elim
def Ff(m:yF X W a f)(j:yF X W b g)(n:yF X W c h)(hm:lastMarks [.LtE,.LtE] [b,c]=false:=by with_unfolding_all rfl):yF X W (.Compare a [.LtE,.LtE] [b,c] pos) (λd S=>(f d S).bind λp i=>(g d i).bind λq e=>JG QM QM p q e λk=>h d k):=OH (RO.or pA) (RO.or pA) JO JO m j n hm
def UY(m:yF X W a f)(j:yF X W b g)(n:yF X W c h)(hm:lastMarks [.LtE,.LtE] [b,c]=false:=by with_unfolding_all rfl):MS X W (.Compare a [.LtE,.LtE] [b,c] pos) (λd S=>((f d S).bind λp i=>(g d i).bind λq e=>JG QM QM p q e λk=>h d k).bind bC):=OI (RO.or pA) (RO.or pA) JO JO m j n hm
def Sz(j:X.A.units+64<cLine)(n:yF X W a f)(k:yF X W b g)(o:yF X W c h)(hm:lastMarks [.LtE,.Lt] [b,c]=false:=by with_unfolding_all rfl):yF X W (.Compare a [.LtE,.Lt] [b,c] pos) (λd S=>(f d S).bind λp i=>(g d i).bind λq e=>JG QM MW p q e λm=>h d m):=OH (RO.or pA) (BW j) JO rM n k o hm
def Ta(j:X.A.units+64<cLine)(n:yF X W a f)(k:yF X W b g)(o:yF X W c h)(hm:lastMarks [.LtE,.Lt] [b,c]=false:=by with_unfolding_all rfl):MS X W (.Compare a [.LtE,.Lt] [b,c] pos) (λd S=>((f d S).bind λp i=>(g d i).bind λq e=>JG QM MW p q e λm=>h d m).bind bC):=OI (RO.or pA) (BW j) JO rM n k o hm
noncomputable def JP:Er->Er->Sto->R Er
 |.val .non,.val .non,S=>.ok (.val (.bl true)) S
 |_,.val .non,S=>.ok (.val (.bl false)) S
 |_,_,_=>.no
noncomputable def SR:Er->Er->Sto->R Er
 |.val .non,.val .non,S=>.ok (.val (.bl false)) S
 |_,.val .non,S=>.ok (.val (.bl true)) S
 |_,_,_=>.no
theorem YS(d:DenX X.K α H p x)(n:p≠.val .non):decide (x=.non)=false:=by
 cases p with
 |new ds=>obtain⟨b,a,rfl,_⟩:=d;rfl
 |val m=>
  cases m with
  |non=>exact absurd rfl n
  |bl b=>cases uO d;rfl
  |int b=>cases xT d;rfl
  |str b=>cases wA d;rfl
  |typ b=>cases Lv d;rfl
  |obj b b' b''=>obtain⟨_,_,_,_,_,rfl,_⟩:=Zp d;rfl
  |tup b=>obtain⟨_,_,rfl,_⟩:=nQ d;rfl
  |scr b=>obtain⟨_,_,rfl,_⟩:=OG d;rfl
  |loc b=>obtain⟨_,rfl,_⟩:=pF d;rfl
def Fg:QQ X W (λx y H Q=>y=.non/\Q (.bl (decide (x=.non))) H) JP:=by
 intro p q x y α S H Q wd d e a;unfold JP at a;split at a
 .cases sG d;exact⟨sG e,Post.val a wd (wN _)⟩
 .rename_i h f b;rw[YS d (λz=>by first |exact b z|exact b z rfl|exact b _ z|exact b rfl z)];exact⟨sG e,Post.val a wd (wN _)⟩
 .exact a.elim
def Mk:QQ X W (λx y H Q=>y=.non/\Q (.bl (!decide (x=.non))) H) SR:=by
 intro p q x y α S H Q wd d e a;unfold SR at a;split at a
 .cases sG d;exact⟨sG e,Post.val a wd (wN _)⟩
 .rename_i h f b;rw[YS d (λz=>by first |exact b z|exact b z rfl|exact b _ z|exact b rfl z)];exact⟨sG e,Post.val a wd (wN _)⟩
 .exact a.elim
def V7(i:yF X W a f)(e:yF X W b g):yF X W (.Compare a [.Is] [b] pos) (λd S=>(f d S).bind λp j=>(g d j).bind λq h=>JP p q h):=JF Ky Fg i e
def Ml(i:yF X W a f)(e:yF X W b g):MS X W (.Compare a [.Is] [b] pos) (λd S=>((f d S).bind λp j=>(g d j).bind λq h=>JP p q h).bind bC):=BS Ky Fg i e
def Mm(i:yF X W a f)(e:yF X W b g):MS X W (.Compare a [.IsNot] [b] pos) (λd S=>((f d S).bind λp j=>(g d j).bind λq h=>SR p q h).bind bC):=BS Rp Mk i e
def getL(ds:R0):Er->Sto->R Er
 |.val (.int i),S=>match iU ds i with |some d=>.ok (.val d) S|none=>.no
 |_,_=>.no
def gL:Er->Er->Sto->R Er
 |.val (.str x),.val (.int i),S=>if x.length<=sizeLine then match iU x i with |some c=>.ok (.val (.str [c])) S|none=>.no else .no
 |.val (.tup ds),q,S=>getL ds q S
 |p,q,S=>match cJ S p with |some ds=>getL ds q S|none=>.no
def Tc{K:P0}(l:DenL K α H ds vs)(e:iU ds i=some d): ∃v,iU vs i=some v/\Den K α H d v:=by
 unfold iU at e ⊢;rw[l.length]
 cases z:QK ds.length i with
 |none=>rw[z]at e;cases e
 |some j=>
  rw[z]at e;obtain⟨v,a,b⟩:=l.at e;exact⟨v,a,b⟩
def yK(E:yF X W a f)(D:yF X W b g)(hs:UJ b:=by exact λ_ _=>rfl):yF X W (.Subscript a b pos) (λw S=>(f w S).bind λp A=>(g w A).bind λq C=>gL p q C):=by
 refine V1 Zd ?_ E D hs;intro p q x y α S H Q wd o r h;have k: ∀{ds:R0}{j:List V}{i:Int}{d:MV},DenL X.K α H ds j->iU ds i=some d->Post X.g W α H _ Q-> ∃v,iU j i=some v/\Q v H:=λl e h=>by obtain⟨v,m,n⟩:=Tc l e;exact⟨v,m,Post.val h wd n⟩
 unfold gL at h;split at h
 .split at h
  .rename_i B;split at h
   .rename_i u e;refine .inr (.inr ⟨_,_,u,wA o,xT r,by rw[wD];exact B,by rw[vH];exact e,?_⟩);exact Post.val h wd (gT [u])
   .exact h.elim
  .exact h.elim
 .unfold getL at h;split at h
  .split at h
   .rename_i d e;obtain⟨t,j,rfl,s1,s⟩:=nQ o;obtain⟨v,m,n⟩:=k s e h;exact .inr (.inl ⟨t,j,_,v,rfl,xT r,s1,m,n⟩)
   .exact h.elim
  .exact h.elim
 .split at h
  .rename_i ds z;unfold getL at h;split at h
   .split at h
    .rename_i d e;obtain⟨t,j,rfl,s1,s⟩:=uQ rfl wd z o;obtain⟨v,m,n⟩:=k s e h;exact .inl ⟨t,j,_,v,rfl,xT r,s1,m,n⟩
    .exact h.elim
   .exact h.elim
  .exact h.elim
end
def QT{lo:N0}(f:IsTup s.heap t its)(hs:s.heap.IsSliceOf sl vl vu .none)(pl:IsPart vl lo)(i:IsPart vu hi)
  (h0:HT.sIx its.size 0 lo=0) (h1:HT.sIx its.size its.size hi=its.size) (h:Q (.ref t) s):wpAny (model prog w) A (getItem (.ref t) (.ref sl)) Q E s:=by
 have b:s.TypeIs (.ref sl) "slice":=by obtain⟨os,d,e,_⟩:=id hs;exact⟨os,d,e⟩
 have a:=f.typeIs;unfold getItem
 try with_reducible refine ĉ ?_
 first |refine wB _|skip
 refine wB (wpAny_sequenceKey a ↑4 ?_);refine wB (ā a Ę (ą Ę a entry_tuple_getitem ?_ (args_tuple_getitem _ _)));show wpAny _ _ (Builtin.Tuple.tupleItemsOf _ >>= _) _ _ s;refine wB (tupleItemsOf_ f (wB (wpAny_typeOf b ?_)));refine wB (HT.sliceApplied_gen hs pl i ?_);show wpAny _ _ (if _=true then _ else _) _ _ s;rw[iP (by rw[h0,h1];simp)];refine wB (wB (wpAny_typeOf a (wP ?_)));refine wB (wpAny_rule ?_)
 first
  |exact wP ⟨_,rfl,wP h⟩
  |exact wB _
  |exact wB _
section
variable{e:Expr}{h:AX}
def Td:SlR X (λx lo hi H Q=> ∃a xs,x=.ref a/\SqT X.K H a xs/\HT.sIx xs.length 0 lo=0/\HT.sIx xs.length xs.length hi=xs.length/\Q (.ref a) H):=by
 intro pins s σ H x v o u lo hi p Q I i hs m j h;obtain⟨a,xs,rfl,n,f,k,q⟩:=h;cases i;obtain⟨d,r,e,t⟩:=I.tuple n;have b:d.toArray.size=xs.length:=by rw[sA];exact r.length.symm
 exact⟨_,_,PyProof.Rows.slot_tuple_getitem.lookup,e.typeIs,QT e hs m j (by rw[b];exact f) (by rw[b];exact k) ⟨.ref a,H,I,rfl,q⟩⟩
def wU:Er->Option Int->Option Int->Sto->R Er
 |.val (.str x),lo,hi,S=>if x.length<=sizeLine then .ok (.val (.str (cU x lo hi))) S else .no
 |.val (.tup ds),lo,hi,S=>.ok (.val (.tup (cU ds lo hi))) S
 |p,lo,hi,S=>match cJ S p with |some ds=>.ok (.new (cU ds lo hi)) S|none=>.no
def Iq{lo:N0}(a:HT.sIx ds.length 0 lo=0)(b:HT.sIx ds.length ds.length hi=ds.length):cU ds lo hi=ds:=by unfold cU;rw[a,b];simp
def xQ{lo:Option Expr}(w:yF X W a f)(y:Ws X W lo lf)(q:Ws X W hi hf):yF X W (.Subscript a (.Slice lo hi none p2) pos) (λm S=>(f m S).bind λp t=>(lf m t).bind λl r=>(hf m r).bind λu o=>wU p l u o):=by
 refine Ly (Zj.or (Ry.or (Zc.or Td))) ?_ w y q;intro p lo hi x α S H Q wd j b;unfold wU at b;split at b
 .split at b
  .rename_i v;exact .inl ⟨_,wA j,v,Post.val b wd (gT _)⟩
  .exact b.elim
 .rename_i _ _ _ s;obtain⟨i,d,rfl,s1,h⟩:=nQ j;by_cases hw:HT.sIx d.length 0 lo=0/\HT.sIx d.length d.length hi=d.length
  .have e:=Iq (by rw[<-h.length];exact hw.1) (by rw[<-h.length];exact hw.2);rw[e]at b;exact .inr (.inr (.inr ⟨i,d,rfl,s1,hw.1,hw.2,Post.val b wd (rH s1 h)⟩))
  .exact .inr (.inr (.inl ⟨i,d,rfl,s1,hw,λp k=>Post.newt b wd k (h.cut lo hi)⟩))
 .split at b
  .rename_i s n;obtain⟨i,d,rfl,s1,h⟩:=uQ rfl wd n j;exact .inr (.inl ⟨i,d,rfl,s1,λp k=>Post.newl b wd k (h.cut lo hi)⟩)
  .exact b.elim
noncomputable def uR{α:Type}(ds:List α)(lo hi st:N0):List α:=(sliceRange (sliceBounds lo hi st ds.length).1 (sliceBounds lo hi st ds.length).2.1 (sliceBounds lo hi st ds.length).2.2).filterMap (ds[·]?)
theorem DenL.pick{K:P0}(l:DenL K α H ds vs): ∀a:List Nat,DenL K α H (a.filterMap (ds[·]?)) (a.filterMap (vs[·]?))
 |[]=>xB
 |i::a=>by
  cases z:ds[i]? with
  |none=>
   have f:vs[i]? =none:=by rw[Ħ,l.length];exact Ħ.mp z
   rw[ī z,ī f];exact DenL.pick l a
  |some d=>
   obtain⟨v,e,b⟩:=l.at z;rw[Ĭ z,Ĭ e];exact yW b (DenL.pick l a)
theorem Vals.pick(r:Vals xs us): ∀a:List Nat,Vals (a.filterMap (xs[·]?)) (a.filterMap (us[·]?))
 |[]=>.nil
 |i::a=>by
  cases z:xs[i]? with
  |none=>rw[ī z,ī (r.none_of z)];exact Vals.pick r a
  |some d=>
   obtain⟨v,b,e⟩:=r.get z;rw[Ĭ z,Ĭ b];exact .cons e (Vals.pick r a)
def YT(st:Int)(p:Er)(lo hi:N0)(S:Sto):R Er:=match cJ S p with
 |some ds=>if(uR ds lo hi (some st)).length<=sizeLine then .ok (.new (uR ds lo hi (some st))) S else .no
 |none=>.no
def Te{st:Int}{lo:Option Expr}(h0:st≠0)(ha:yF X W a f)(Z:Ws X W lo lf)(L:Ws X W hi hf)
  (hst: ∀pins s σ H  Q ,Inv X pins σ H s->Q (.int st) H->wpAny ↑6 X.A (eval ste X.env) (EP X pins σ Q) X.xe s):
  yF X W (.Subscript a (.Slice lo hi (some ste) p2) pos) (λj S=>(f j S).bind λp G=>(lf j G).bind λl N=>(hf j N).bind λu S3=>YT st p l u S3):=by
 obtain⟨ta,ha,fa⟩:=ha;obtain⟨tl,Z,fl⟩:=Z;obtain⟨th,L,fh⟩:=L
 refine⟨λσ H Q=>ta σ H λx B=>tl σ B λl k=>th σ k λu e=> ∃a xs,x=.ref a/\SqL X.K e a xs/\(uR xs l u (some st)).length<=sizeLine/\ ∀p,e p=none->Q (.ref p) (jL e p (.lst (uR xs l u (some st)))),?_,λα j S σ H Q wd sl q=>fa α j S σ H _ wd sl (q.bind λu p G P B e1 U w1 d1 J=>fl P j G σ B _ w1 (sl.ext U) ((J.shift U).bind λu2 l N O k e2 M w2 d2 F=>
  fh O j N σ k _ w2 ((sl.ext U).ext M) ((F.shift M).bind λu3 m S3 E e e3 x3 w3 d3 d=>?_)))⟩
 .intro pins s σ H Q I h;refine Subscript_ (kL (ha pins s σ H _ I h) λv s1 ⟨x,B,I1,r1,J⟩=>?_);refine wpAny_Slice (kL (Z pins s1 σ B _ I1 J) λvl s2 ⟨l,k,I2,pl,F⟩=>kL (L pins s2 σ k _ I2 F) λvu s3 ⟨u,e,I3,pu,d⟩=>?_);rw[evalPart_some];refine kL (hst pins s3 σ e (λw' H'=>w'=.int st/\H'=e) I3 ⟨rfl,rfl⟩) λY t ⟨y,H4,I4,r4,ey,eH⟩=>?_;subst ey eH;obtain⟨t4,rfl⟩:=r4;obtain⟨a,xs,rfl,sq,aa,q⟩:=d;cases r1;have C:Inv X pins σ H4 {t with heap:=t.heap.push {cls:=.type "slice",data:=.fields #[vl,vu,.int st t4]}}:=I4.kept (t':=t.toks) λb ob q=>hP0 _ q;obtain⟨i,r,ht,hz⟩:=C.list sq;have n:=r.length;refine tail_any (ops:=[.ref a,.ref t.heap.objs.size]) (T:="list") ht.isList.typeIs slot_list_getitem.lookup ?_ (by with_unfolding_all rfl);refine wpAny_getItem_list_slice ht.isList (Heap.IsSliceOf.new ..) pl pu (.int st t4) (by intro z;exact h0 (å z)) ?_ (by rw[sA];omega);have ep:slicePick i.toArray l u (some st)=(uR i l u (some st)).toArray:=by unfold slicePick uR;simp
  rw[ep];have D:xs.length=i.length:=n;refine⟨.ref _,_,C.laid (t':=t.toks) (o:=.lst (uR xs l u (some st))) (λb ob q=>hP0 _ q) (à _) ?_,rfl,q _ (C.hok.fresh (à _))⟩;refine⟨aa,_,0,?_,ä _ rfl⟩;unfold uR;rw[D];exact Vals.pick r _
 .cases d2;cases d3
  replace d:=d.shift x3
  unfold YT at d;split at d
  .rename_i ds D;split at d
   .rename_i hz;obtain⟨a1,Y,e5,s1,l1⟩:=uQ rfl w3 D ((d1.1.ext M).ext x3);have lp:DenL X.K E e (uR ds u2 u3 (some st)) (uR Y u2 u3 (some st)):=by unfold uR;rw[<-l1.length];exact l1.pick _
    exact⟨a1,Y,e5,s1,by rw[lp.length];exact hz,λp hp=>Post.newl d w3 hp lp⟩
   .exact d.elim
  .exact d.elim
def Mn: ∀pins s σ H  Q ,Inv X pins σ H s->Q (.int (-i)) H->wpAny ↑6 X.A (eval (.UnaryOp .USub (.Constant (.int i) j p3) pos) X.env) (EP X pins σ Q) X.xe s:=λpins s σ H Q I h=>Wl Kw Bh pins s σ H Q I ⟨i,rfl,h⟩
end
section
variable{X:Cx}{W:XW}{a b c e:Expr}{g h:AX}
def ME(S:Sto)(n:Nat)(d:MV):List MV->Option (List Bool)
 |[]=>some []
 |y::ys=>(eqv S n y d).bind λk=>(ME S n d ys).map (k::·)
section
variable{α:B9}{S:Sto}{H:Hp}{pins:L1}{σ:St}{s:Ĵ}
def Tf(X:Cx)(α:B9)(S:Sto)(H:Hp)(n:Nat)(d:MV)(u:ĵ):Bool:=open Classical in decide (∃y x,Den X.K α H y x/\RelV x u/\eqv S n y d=some true)
open Classical in
def Tg(I:↑1)(wd:Wd X.g α S H){n:Nat}{d y:MV}{x:V}{u:ĵ}{k:Bool}(f:Den X.K α H y x)(r:RelV x u)(e:eqv S n y d=some k):Tf X α S H n d u=k:=by
 unfold Tf
 cases k with
 |true=>exact dT0 ⟨y,x,f,r,e⟩
 |false=>
  refine dF0 λ⟨j,m,a,h,b⟩=>?_;have i:=r.inj h;subst i;rw[f.inj I wd a]at e;rw[e]at b;cases b
theorem HX(I:↑1)(wd:Wd X.g α S H)(f:A.units+n<cLine)(dd:Den X.K α H d x)(j:RelV x v): ∀{b}{p}{h}{bs},DenL X.K α H b p->Vals p h->ME S n d b=some bs->
  h.map (Tf X α S H n d)=bs/\ ∀u∈h,SeqAt.EqAt A s u v (Tf X α S H n d u)
 |[],_,_,bs,l,r,e=>by cases l.isnil;cases r;cases e;exact⟨rfl,λu f=>by cases f⟩
 |y::b,_,_,bs,l,r,e=>by
  obtain⟨B,C,rfl,o,q⟩:=l.uncons
  cases r with
  |cons r1 r2=>
   unfold ME at e
   cases z:eqv S n y d with
   |none=>rw[z]at e;cases e
   |some k=>
    rw[z]at e
    cases i:ME S n d b with
    |none=>simp[i]at e
    |some cs=>
     simp[i]at e;subst e;obtain⟨t,w⟩:=HX I wd f dd j q r2 i;have m:=Tg I wd o r1 z;refine⟨by rw[è,t,m],λu a=>?_⟩;rcases mC.mp a with rfl|a
     .rw[m];exact JM I wd n A y d _ _ _ _ k f o dd r1 j z
     .exact w u a
end
theorem any_map{a:A0}{f:ĵ->Bool}(h:a.map f=bs):a.toArray.any f=bs.any id:=by subst h;simp[List.any_map]
def itemsOf(S:Sto):Er->Option (List MV)
 |.val (.tup ds)=>some ds
 |r=>cJ S r
def HY(wd:Wd X.g α S H)(e:itemsOf S r=some ds)(d:DenX X.K α H r x): ∃a b,x=.ref a/\(SqL X.K H a b\/SqT X.K H a b)/\DenL X.K α H ds b:=by
 unfold itemsOf at e;split at e
 .cases e;obtain⟨a,b,rfl,s,l⟩:=nQ d;exact⟨a,b,rfl,.inr s,l⟩
 .obtain⟨a,b,rfl,s,l⟩:=uQ rfl wd e d;exact⟨a,b,rfl,.inl s,l⟩
def CA(a:Bool)(p q:Er)(S:Sto):R Er:=match p with
 |.val d=>match itemsOf S q with
  |some ys=>match ME S zR d ys with
   |some bs=>.ok (.val (.bl (if a=true then !bs.any id else bs.any id))) S
   |none=>.no
  |none=>.no
 |.new _=>.no
def JQ(a:Bool):Er->Er->Sto->R Er
 |.val (.str [c]),.val (.str y),S=>.ok (.val (.bl (if a=true then !decide (c∈y)else decide (c∈y)))) S
 |p,q,S=>CA a p q S
abbrev Mp(X:Cx)(a:Bool):R2:=λx y H Q=> ∃α S d q b bs,Wd X.g α S H/\Den X.K α H d x/\DenX X.K α H q y/\itemsOf S q=some b/\ME S zR d b=some bs/\Q (.bl (if a=true then !bs.any id else bs.any id)) H
theorem Zx(C:X.A.units+64<cLine):OpR X (compareOp .In) (Mp X false):=by
 intro pins s σ H x y v u Q I n p h;obtain⟨α,S,d,q,B,bs,wd,m,t,z,o,k⟩:=h;obtain⟨a,D,rfl,b,l⟩:=HY wd z t;cases p;rcases b with b|b
 .obtain⟨e,r,j,_⟩:=I.list b;obtain⟨f,i⟩:=HX I wd (A:=X.A.in1) (by show X.A.units+1+zR<cLine;unfold zR;lia) m n l r o;refine SeqAt.in_listAt _ j.isList (λw hw=>i w (by simpa using hw)) ⟨.bl _,H,I,rfl,?_⟩;rw[any_map f];exact k
 .obtain⟨e,r,j,_⟩:=I.tuple b;obtain⟨f,i⟩:=HX I wd (A:=X.A.in1) (by show X.A.units+1+zR<cLine;unfold zR;lia) m n l r o;refine SeqAt.in_tupleAt _ j (λw hw=>i w (by simpa using hw)) ⟨.bl _,H,I,rfl,?_⟩;rw[any_map f];exact k
theorem Ir(C:X.A.units+64<cLine):OpR X (compareOp .NotIn) (Mp X true):=by
 intro pins s σ H x y v u Q I n p h;obtain⟨α,S,d,q,B,bs,wd,m,t,z,o,k⟩:=h;obtain⟨a,D,rfl,b,l⟩:=HY wd z t;cases p;rcases b with b|b
 .obtain⟨e,r,j,_⟩:=I.list b;obtain⟨f,i⟩:=HX I wd (A:=X.A.in1) (by show X.A.units+1+zR<cLine;unfold zR;lia) m n l r o;refine SeqAt.notIn_listAt _ j.isList (λw hw=>i w (by simpa using hw)) ⟨.bl _,H,I,rfl,?_⟩;rw[any_map f];exact k
 .obtain⟨e,r,j,_⟩:=I.tuple b;obtain⟨f,i⟩:=HX I wd (A:=X.A.in1) (by show X.A.units+1+zR<cLine;unfold zR;lia) m n l r o;refine SeqAt.notIn_tupleAt _ j (λw hw=>i w (by simpa using hw)) ⟨.bl _,H,I,rfl,?_⟩;rw[any_map f];exact k
def UZ:QQ X W (λx y H Q=>(∃i j,x=.str i/\y=.str j/\Q (.bl (if neg=true then !(!(Builtin.Str.occurrences j i 0 j.length 1).isEmpty)else !(Builtin.Str.occurrences j i 0 j.length 1).isEmpty)) H)\/Mp X neg x y H Q) (JQ neg):=by
 intro p q x y α S H Q wd b e a;unfold JQ at a;split at a
 .refine .inl ⟨_,_,wA b,wA e,?_⟩;rw[<-Ej,PySem.StrLaws.found_one];exact Post.val a wd (wN _)
 .unfold CA at a;split at a
  .rename_i d _;split at a
   .rename_i h f;split at a
    .rename_i bs k;exact .inr ⟨α,S,_,q,h,bs,wd,b,e,f,k,Post.val a wd (wN _)⟩
    .exact a.elim
   .exact a.elim
  .exact a.elim
def OpR.imp{f:ĵ->ĵ->Sem ĵ}(h:OpR X f r)(i: ∀x y H Q,r' x y H Q->r x y H Q):OpR X f r':=λpins s σ H x y v u Q I b a q=>h pins s σ H x y v u Q I b a (i x y H Q q)
def Mq(a:X.A.units+64<cLine):OpR X (compareOp .In) (λx y H Q=>(∃i j,x=.str i/\y=.str j/\Q (.bl (if false =true then !(!(Builtin.Str.occurrences j i 0 j.length 1).isEmpty)else !(Builtin.Str.occurrences j i 0 j.length 1).isEmpty)) H)\/Mp X false x y H Q):=
 OpR.imp (Hz.or (Zx a)) λx y H Q q=>q.imp (λq=>q) λq=>q
def Iu(a:X.A.units+64<cLine):OpR X (compareOp .NotIn) (λx y H Q=>(∃i j,x=.str i/\y=.str j/\Q (.bl (if true =true then !(!(Builtin.Str.occurrences j i 0 j.length 1).isEmpty)else !(Builtin.Str.occurrences j i 0 j.length 1).isEmpty)) H)\/Mp X true x y H Q):=
 OpR.imp (UF.or (Ir a)) λx y H Q q=>q.imp (λq=>q) λq=>q
def Wz(i:X.A.units+64<cLine)(k:yF X W a f)(j:yF X W b g)(hm:behindInMarks .In b=false:=by with_unfolding_all rfl):yF X W (.Compare a [.In] [b] pos) (λd S=>(f d S).bind λp h=>(g d h).bind λq e=>JQ false p q e):=JF (Mq i) UZ k j hm
def Xa(i:X.A.units+64<cLine)(k:yF X W a f)(j:yF X W b g)(hm:behindInMarks .In b=false:=by with_unfolding_all rfl):MS X W (.Compare a [.In] [b] pos) (λd S=>((f d S).bind λp h=>(g d h).bind λq e=>JQ false p q e).bind bC):=BS (Mq i) UZ k j hm
def OL(i:X.A.units+64<cLine)(k:yF X W a f)(j:yF X W b g)(hm:behindInMarks .NotIn b=false:=by with_unfolding_all rfl):MS X W (.Compare a [.NotIn] [b] pos) (λd S=>((f d S).bind λp h=>(g d h).bind λq e=>JQ true p q e).bind bC):=BS (Iu i) UZ k j hm
def rN{K:P0}(d:ArgsX K α H [r] vs): ∃v,vs=[v]/\DenX K α H r v:=by
 cases d with
 |cons a l=>cases l;exact⟨_,rfl,a⟩
def Xb{K:P0}(d:ArgsX K α H [r,r'] vs): ∃v u,vs=[v,u]/\DenX K α H r v/\DenX K α H r' u:=by
 cases d with
 |cons a l=>obtain⟨u,rfl,b⟩:=rN l;exact⟨_,u,rfl,a,b⟩
def kS:List Er->Sto->R Er
 |[.val (.str x)],S=>if x.length<=sizeLine then .ok (.val (.int x.length)) S else .no
 |[r],S=>match itemsOf S r with |some ds=>.ok (.val (.int ds.length)) S|none=>.no
 |_,_=>.no
def xR:AU X W (λxs H Q=>(∃z,xs=[.str z]/\z.length<=sizeLine/\Q (.int z.length) H)\/ ∃p h,xs=[.ref p]/\(SqL X.K H p h\/SqT X.K H p h)/\Q (.int h.length) H) kS:=by
 intro m o α S H Q wd d b;unfold kS at b;split at b
 .split at b
  .rename_i k;obtain⟨v,rfl,f⟩:=rN d;cases wA f;refine .inl ⟨_,rfl,by rw[wD];exact k,?_⟩;exact Post.val b wd (xD _)
  .exact b.elim
 .split at b
  .rename_i n e;obtain⟨v,rfl,f⟩:=rN d;obtain⟨a,i,rfl,j,l⟩:=HY wd e f;refine .inr ⟨a,i,rfl,j,?_⟩;rw[l.length];exact Post.val b wd (xD _)
  .exact b.elim
 .exact b.elim
def zW:CallR X (.builtin "len") (λxs H Q=>(∃z,xs=[.str z]/\z.length<=sizeLine/\Q (.int z.length) H)\/ ∃p a,xs=[.ref p]/\(SqL X.K H p a\/SqT X.K H p a)/\Q (.int a.length) H):=UM.or UL
noncomputable def Th:List Er->Sto->R Er
 |[.val (.int i)],S=>.ok (.val (.int (if i<0 then -i else i))) S
 |_,_=>.no
def Zy:AU X W (λxs H Q=> ∃i,xs=[.int i]/\Q (.int (if i<0 then -i else i)) H) Th:=by
 intro f e α S H Q wd d a;unfold Th at a;split at a
 .obtain⟨v,rfl,b⟩:=rN d;cases xT b;exact⟨_,rfl,Post.val a wd (xD _)⟩
 .exact a.elim
noncomputable def iC:List MV->Option (List Bool)
 |[]=>some []
 |.bl b::r=>(iC r).map (b::·)
 |_::_=>none
theorem SS{K:P0}: ∀{ds}{bs}{a},iC ds=some bs->DenL K α H ds a->a=bs.map V.bl
 |[],_,_,e,l=>by cases e;exact l.isnil
 |d::r,bs,_,e,l=>by
  cases d with
  |bl b=>
   unfold iC at e
   cases z:iC r with
   |none=>rw[z]at e;cases e
   |some cs=>
    rw[z]at e;cases e;obtain⟨v,i,rfl,h,f⟩:=l.uncons;rw[rK h,SS z f];rfl
  |_=>cases e
def QU:List Er->Sto->R Er
 |[r],S=>match (cJ S r).bind iC with |some bs=>.ok (.val (.bl (bs.all id))) S|none=>.no
 |_,_=>.no
def OM(h:X.calm=true):AU X W (λxs H Q=> ∃(a:Addr)(bs:M0),xs=[.ref a]/\SqL X.K H a (bs.map V.bl)/\X.calm=true/\Q (.bl (bs.all id)) H) QU:=by
 intro k m α S H Q wd d b;unfold QU at b;split at b
 .split at b
  .rename_i bs e;obtain⟨v,rfl,f⟩:=rN d
   cases z:cJ S _ with
   |none=>rw[z]at e;cases e
   |some ds=>
    rw[z]at e;obtain⟨i,j,rfl,s,l⟩:=uQ rfl wd z f;refine⟨i,bs,rfl,?_,h,Post.val b wd (wN _)⟩;rw[<-SS e l];exact s
  .exact b.elim
 .exact b.elim
def pK(S:Sto):Er->Option String
 |.val .non=>some "NoneType"
 |.val (.bl _)=>some "bool"
 |.val (.int _)=>some "int"
 |.val (.str _)=>some "str"
 |.val (.tup _)=>some "tuple"
 |.val (.typ _)=>none
 |.val (.obj _ _ _)=>none
 |r=>(cJ S r).map λ_=>"list"
noncomputable def VA(t T:String):Bool:=t==T || (t=="bool"&&T=="int")
noncomputable def known(T:String):Bool:=T=="int" || T=="bool" || T=="str" || T=="tuple" || T=="list"
def bF:List Er->Sto->R Er
 |[r,.val (.typ T)],S=>match pK S r with
  |some t=>if known T=true then .ok (.val (.bl (VA t T))) S else .no
  |none=>.no
 |_,_=>.no
theorem eY(K)(d:t="NoneType"\/t="bool"\/t="int"\/t="str"\/t="tuple"\/t="list")(b:known T=true):PySem.W.kitOne K (.type t) (.type T)=some (VA t T):=by
 have a:T="int"\/T="bool"\/T="str"\/T="tuple"\/T="list":=by
  unfold known at b;simp only[Bool.or_eq_true,beq_iff_eq]at b;rcases b with(((h|h)|h)|h)|h
  .exact .inl h
  .exact .inr (.inl h)
  .exact .inr (.inr (.inl h))
  .exact .inr (.inr (.inr (.inl h)))
  .exact .inr (.inr (.inr (.inr h)))
 rcases d with rfl|rfl|rfl|rfl|rfl|rfl<;>rcases a with rfl|rfl|rfl|rfl|rfl<;>kernel_rfl
def wH:CallR X (.builtin "isinstance") (λxs H Q=> ∃α S r x t T,xs=[x,.ty T]/\Wd X.g α S H/\DenX X.K α H r x/\pK S r=some t/\known T=true/\Q (.bl (VA t T)) H):=by
 intro pins s σ H xs B Q I y h;obtain⟨α,S,r,x,t,T,rfl,wd,d,e,f,q⟩:=h;obtain⟨u,C,rfl,i,w⟩:=vals2 y;cases w;have b: ∀p,EP X pins σ Q _ {s with toks:=p}:=λp=>⟨.bl _,H,I.tok _,rfl,q⟩
 unfold pK at e;split at e
 .cases e;cases sG d;cases i;exact PySem.W.kia_one PySem.W.kitx_none I.kIn True.intro (eY X.K (.inl rfl) f) (λz=>nomatch z) b
 .cases e;cases uO d;cases i;exact PySem.W.kia_one PySem.W.kitx_bool I.kIn True.intro (eY X.K (.inr (.inl rfl)) f) (λz=>nomatch z) b
 .cases e;cases xT d;obtain⟨t,rfl⟩:=i;exact PySem.W.kia_one PySem.W.kitx_int I.kIn True.intro (eY X.K (.inr (.inr (.inl rfl))) f) (λz=>nomatch z) b
 .cases e;cases wA d;obtain⟨t,rfl⟩:=i;exact PySem.W.kia_one PySem.W.kitx_str I.kIn True.intro (eY X.K (.inr (.inr (.inr (.inl rfl)))) f) (λz=>nomatch z) b
 .cases e;obtain⟨a,v,rfl,j,l⟩:=nQ d;cases i;obtain⟨k,A,p1,_⟩:=I.tuple j;obtain⟨o,m,n,_⟩:=p1;exact PySem.W.kia_one PySem.W.kitx_tuple I.kIn ⟨o,m,n⟩ (eY X.K (.inr (.inr (.inr (.inr (.inl rfl))))) f) (λz=>nomatch z) b
 .cases e
 .cases e
 .cases z:cJ S r with
  |none=>rw[z]at e;cases e
  |some ds=>
   rw[z]at e;cases e;obtain⟨a,v,rfl,j,l⟩:=uQ rfl wd z d;cases i;obtain⟨k,A,p1,_⟩:=I.list j;obtain⟨o,m,n,_⟩:=p1.isList;exact PySem.W.kia_one PySem.W.kitx_list I.kIn ⟨o,m,n⟩ (eY X.K (.inr (.inr (.inr (.inr (.inr rfl))))) f) (λz=>nomatch z) b
def bG:AU X W (λxs H Q=> ∃α S r x t T,xs=[x,.ty T]/\Wd X.g α S H/\DenX X.K α H r x/\pK S r=some t/\known T=true/\Q (.bl (VA t T)) H) bF:=by
 intro i j α S H Q wd d a;unfold bF at a;split at a
 .split at a
  .rename_i t h;split at a
   .rename_i e;obtain⟨v,u,rfl,b,f⟩:=Xb d;cases Lv f;exact⟨α,S,_,v,t,_,rfl,wd,b,h,e,Post.val a wd (wN _)⟩
   .exact a.elim
  .exact a.elim
 .exact a.elim
def hW:List Er->Sto->R Er
 |[.val (.tup ds)],S=>.ok (.val (.tup ds)) S
 |[r],S=>match cJ S r with |some ds=>.ok (.val (.tup ds)) S|none=>.no
 |_,_=>.no
def cV:AU X W (λxs H Q=> ∃p j,xs=[.ref p]/\((SqL X.K H p j/\ ∀l,H l=none->Q (.ref l) (jL H l (.tup j)))\/(SqT X.K H p j/\Q (.ref p) H))) hW:=by
 intro m o α S H Q wd d b;unfold hW at b;split at b
 .obtain⟨v,rfl,h⟩:=rN d;obtain⟨a,i,rfl,f,l⟩:=nQ h;exact⟨a,i,rfl,.inr ⟨f,Post.val b wd (rH f l)⟩⟩
 .split at b
  .rename_i n e;obtain⟨v,rfl,h⟩:=rN d;obtain⟨a,i,rfl,f,l⟩:=uQ rfl wd e h;exact⟨a,i,rfl,.inl ⟨f,λp k=>Post.newt b wd k l⟩⟩
  .exact b.elim
 .exact b.elim
def Fi:List Er->Sto->R Er
 |[r],S=>match itemsOf S r with |some ds=>.ok (.new ds) S|none=>.no
 |_,_=>.no
def Ti:AU X W (λxs H Q=> ∃p f,xs=[.ref p]/\(SqL X.K H p f\/SqT X.K H p f)/\ ∀l,H l=none->Q (.ref l) (jL H l (.lst f))) Fi:=by
 intro m o α S H Q wd d b;unfold Fi at b;split at b
 .split at b
  .rename_i n e;obtain⟨v,rfl,h⟩:=rN d;obtain⟨a,i,rfl,j,l⟩:=HY wd e h;exact⟨a,i,rfl,j,λp k=>Post.newl b wd k l⟩
  .exact b.elim
 .exact b.elim
def xH:bootBuiltins "len"=some (.builtin "len"):=by decide+kernel
def Zz:bootBuiltins "abs"=some (.builtin "abs"):=by decide+kernel
def ON:bootBuiltins "all"=some (.builtin "all"):=by decide+kernel
def yA:bootBuiltins "isinstance"=some (.builtin "isinstance"):=by decide+kernel
def CB:bootBuiltins "int"=some (.type "int"):=by decide+kernel
def VB:bootBuiltins "bool"=some (.type "bool"):=by decide+kernel
def CC:bootBuiltins "str"=some (.type "str"):=by decide+kernel
def kT:bootBuiltins "tuple"=some (.type "tuple"):=by decide+kernel
def HZ:bootBuiltins "list"=some (.type "list"):=by decide+kernel
end
noncomputable def FF(n:Nat):List Nat:=(Nat.toDigits 10 n).map Char.toNat
def iD(i:Int):List Nat:=if i<0 then 45::FF i.natAbs else FF i.natAbs
def Mr(i):Str.ofString (toString i)=yZ (iD i):=by
 have a:(Str.ofString (toString i)).cps.toList=iD i:=by
  unfold iD
  cases i with
  |ofNat m=>
   rw[iN0 (by have:(0:Int)<=Int.ofNat m:=Int.natCast_nonneg m;omega)];exact PySem.W.KIN.signs_num m
  |negSucc m=>
   rw[iP (Int.negSucc_lt_zero m),signs_ofString];show(String.toList ("-"++Nat.repr (m+1))).map Char.toNat=45::FF (m+1);rw[String.toList_append,ï,Nat.toList_repr];rfl
 have: ∀s:Str,s=yZ s.cps.toList:=λs=>by cases s;simp[yZ]
 rw[this (Str.ofString (toString i)),a]
section
variable{X:Cx}{W:XW}{a o i:Expr}{es:O0}{g h:AX}{pos apos:Pos}
def LK:CallR X (.type "str") (λxs H Q=>(∃i,xs=[.int i]/\i.natAbs.log2<1920/\Q (.str (yZ (iD i))) H)\/ ∃x,xs=[.str x]/\Q (.str x) H):=by
 intro pins s σ H xs a Q I r h;rcases h with⟨i,rfl,hz,q⟩|⟨x,rfl,q⟩
 .refine UG pins s σ H _ a Q I r ⟨i,rfl,hz,?_⟩;show Q (.str (Str.ofString (toString i))) H;rw[Mr];exact q
 .obtain⟨u,rfl,t,rfl⟩:=vals1 r;exact PySem.P.str_of_str ⟨.str x,H,I,⟨_,rfl⟩,q⟩
def YU:List Er->Sto->R Er
 |[.val (.int i)],S=>if i.natAbs.log2<1920 then .ok (.val (.str (iD i))) S else .no
 |[.val (.str x)],S=>.ok (.val (.str x)) S
 |_,_=>.no
def Ms:AU X W (λxs H Q=>(∃i,xs=[.int i]/\i.natAbs.log2<1920/\Q (.str (yZ (iD i))) H)\/ ∃x,xs=[.str x]/\Q (.str x) H) YU:=by
 intro h f α S H Q wd d a;unfold YU at a;split at a
 .obtain⟨v,rfl,b⟩:=rN d;cases xT b;split at a
  .rename_i e;exact .inl ⟨_,rfl,e,Post.val a wd (gT _)⟩
  .exact a.elim
 .obtain⟨v,rfl,b⟩:=rN d;cases wA b;exact .inr ⟨_,rfl,Post.val a wd (gT _)⟩
 .exact a.elim
def iE:CallR X (.type "int") (λxs H Q=>((∃i,xs=[.int i]/\Q (.int i) H)\/ ∃k,xs=[.bl k]/\Q (.int (if k then 1 else 0)) H)\/ ∃x n,xs=[.str x]/\PySem.intText? x=some n/\x.length<=640/\Q (.int n) H):=by refine Ia.or ?_;intro pins s σ H xs d Q I r h;obtain⟨x,n,rfl,a,b,q⟩:=h;obtain⟨u,rfl,t,rfl⟩:=vals1 r;exact PySem.W.KIN.call_text a b ⟨.int n,H,I.tok _,⟨_,rfl⟩,q⟩
def GE:List Er->Sto->R Er
 |[.val (.int i)],S=>.ok (.val (.int i)) S
 |[.val (.bl k)],S=>.ok (.val (.int (if k then 1 else 0))) S
 |[.val (.str x)],S=>match PySem.intText? (yZ x)with
  |some n=>if x.length<=640 then .ok (.val (.int n)) S else .no
  |none=>.no
 |_,_=>.no
def OO:AU X W (λxs H Q=>((∃i,xs=[.int i]/\Q (.int i) H)\/ ∃k,xs=[.bl k]/\Q (.int (if k then 1 else 0)) H)\/ ∃x n,xs=[.str x]/\PySem.intText? x=some n/\x.length<=640/\Q (.int n) H) GE:=by
 intro h j α S H Q wd d a;unfold GE at a;split at a
 .obtain⟨v,rfl,b⟩:=rN d;cases xT b;exact .inl (.inl ⟨_,rfl,Post.val a wd (xD _)⟩)
 .obtain⟨v,rfl,b⟩:=rN d;cases uO b;exact .inl (.inr ⟨_,rfl,Post.val a wd (xD _)⟩)
 .obtain⟨v,rfl,b⟩:=rN d;cases wA b;split at a
  .rename_i n e;split at a
   .rename_i f;exact .inr ⟨_,n,rfl,e,by rw[wD];exact f,Post.val a wd (xD _)⟩
   .exact a.elim
  .exact a.elim
 .exact a.elim
noncomputable def jE:Er->Sto->Bool
 |.val (.str _),_=>true
 |_,_=>false
def ty_str:TyM X "str" jE:=by
 intro p x α S H wd d h;unfold jE at h;split at h
 .cases wA d;rfl
 .cases h
def eQ(p:Er)(S:Sto):Bool:=(cJ S p).isSome
def Ci:TyM X "list" eQ:=by
 intro p x α S H wd d h;unfold eQ at h
 cases z:cJ S p with
 |none=>rw[z]at h;cases h
 |some ds=>
  obtain⟨a,b,rfl,s,l⟩:=uQ rfl wd z d;exact .inl ⟨rfl,b,s⟩
def Tj(x y):Txt.startswith (yZ x) (yZ y)=(decide (y.length<=x.length)&&decide (x.take y.length=y)):=by
 show(decide (0+(yZ y).length<=(yZ x).length)&&PySem.Builtin.Str.subAt (yZ x) (yZ y) 0)=_;rw[wD,wD,Nat.zero_add];congr 1;unfold PySem.Builtin.Str.subAt;rw[wD,Bool.eq_iff_iff,beq_iff_eq,ċ,Nat.zero_add];constructor
 .intro h;have:=congrArg Array.toList h;simpa [yZ]using this
 .intro h;apply Array.toList_inj.mp;simpa [yZ]using h
noncomputable def Xc:Er->List Er->Sto->R Er
 |.val (.str x),[.val (.str y)],S=>.ok (.val (.bl (decide (y.length<=x.length)&&decide (x.take y.length=y)))) S
 |_,_,_=>.no
def Iv:Wp X "str.startswith" (λx xs H Q=> ∃y z,x=.str (yZ y)/\xs=[.str (yZ z)]/\Q (.bl (decide (z.length<=y.length)&&decide (y.take z.length=z))) H):=by intro pins s σ H x xs v e Q I a b h;obtain⟨y,z,rfl,rfl,q⟩:=h;obtain⟨t,rfl⟩:=a;obtain⟨u,rfl,d,rfl⟩:=vals1 b;refine PySem.SC.startswith ⟨.bl _,H,I,rfl,?_⟩;rw[Tj];exact q
def Iw:YO X W (λx xs H Q=> ∃y z,x=.str (yZ y)/\xs=[.str (yZ z)]/\Q (.bl (decide (z.length<=y.length)&&decide (y.take z.length=z))) H) Xc:=by
 intro p i x k α S j H Q h wd f d b a
 replace a:=a.shift f
 unfold Xc at a;split at a
 .obtain⟨v,rfl,e⟩:=FK b;exact⟨_,_,wA d,by rw[wA e],Post.val a wd (wN _)⟩
 .exact a.elim
def JR(k:yF X W a f)(i:IW X W (e::es) af)
  (hbase:attributeBase a "startswith" X.env (eval a X.env)=eval a X.env:=by rfl)
  (hfew:((backTo pos (starEach (e::es) X.env)).all (λx=>!x.1)&&(backToKw pos (keywordEach [] X.env)).all (λx=>x.1.isSome)
   &&decide ↑7)=true:=by rfl)
  (hline:(apos.endLine==pos.line)=true:=by rfl) (hs:q8 X e es:=by rfl) (hplain:q9 X pos es:=by rfl):
  yF X W (.Call (.Attribute a "startswith" apos) (e::es) [] pos) (λd S=>(f d S).bind λp b=>if jE p b=true then(af d b).bind λj h=>Xc p j h else .no):=
 vI PySem.F.plainAttrs_str PySem.F.slot_str_startswith PySem.F.type_str_startswith Iv Iw ty_str k i hbase hfew hline hs hplain
def strIdx(x y:Db):Option Nat:=(Builtin.Str.occurrences (yZ x) (yZ y) 0 (yZ x).length 1).head?
def OP:Er->List Er->Sto->R Er
 |.val (.str x),[.val (.str y)],S=>match strIdx x y with |some i=>.ok (.val (.int (i:Nat))) S|none=>.no
 |_,_,_=>.no
def Tl:Wp X "str.index" (λx xs H Q=> ∃y z i,x=.str (yZ y)/\xs=[.str (yZ z)]/\strIdx y z=some i/\Q (.int  i ) H):=by
 intro pins s σ H x xs v f Q I b d h;obtain⟨y,z,i,rfl,rfl,hi,q⟩:=h;obtain⟨t,rfl⟩:=b;obtain⟨u,rfl,e,rfl⟩:=vals1 d;unfold strIdx at hi
 cases a:Builtin.Str.occurrences (yZ y) (yZ z) 0 (yZ y).length 1 with
 |nil=>rw[a]at hi;cases hi
 |cons k r=>
  rw[a]at hi;cases hi;exact PySem.SC.index a ⟨.int _,H,I.tok _,⟨_,rfl⟩,q⟩
def To:YO X W (λx xs H Q=> ∃y z i,x=.str (yZ y)/\xs=[.str (yZ z)]/\strIdx y z=some i/\Q (.int  i ) H) OP:=by
 intro p j x m α S k H Q h wd f d b a
 replace a:=a.shift f
 unfold OP at a;split at a
 .split at a
  .rename_i i hi;obtain⟨v,rfl,e⟩:=FK b;exact⟨_,_,i,wA d,by rw[wA e],hi,Post.val a wd (xD _)⟩
  .exact a.elim
 .exact a.elim
def Fj(k:yF X W a f)(i:IW X W (e::es) af)
  (hbase:attributeBase a "index" X.env (eval a X.env)=eval a X.env:=by rfl)
  (hfew:((backTo pos (starEach (e::es) X.env)).all (λx=>!x.1)&&(backToKw pos (keywordEach [] X.env)).all (λx=>x.1.isSome)
   &&decide ↑7)=true:=by rfl)
  (hline:(apos.endLine==pos.line)=true:=by rfl) (hs:q8 X e es:=by rfl) (hplain:q9 X pos es:=by rfl):
  yF X W (.Call (.Attribute a "index" apos) (e::es) [] pos) (λd S=>(f d S).bind λp b=>if jE p b=true then(af d b).bind λj h=>OP p j h else .no):=
 vI PySem.F.plainAttrs_str PySem.F.slot_str_index PySem.F.type_str_index Tl To ty_str k i hbase hfew hline hs hplain
noncomputable def QV(p:Er)(S:Sto)(G:List MV->Option (List MV)):R Er:=match p with
 |.val (.loc l)=>match S[l]? with
  |some (.lst ds)=>match G ds with
   |some es=>.ok (.val .non) (S.set l (.lst es))
   |none=>.no
  |_=>.no
 |_=>.no
def Iy(wd:Wd X.g α S H)(s:Ext α0 H0 α H)(n:DenX X.K α H p x)(b:Post X.g W α0 H0 (QV p S G) Q):
  ∃a f e es,x=.ref a/\H a=some (.lst f)/\DenL X.K α H e f/\G e=some es/\ ∀d,DenL X.K α H es d->Q .non (jL H a (.lst d)):=by
 unfold QV at b;split at b
 .rename_i l;obtain⟨a,rfl,h⟩:=pF n;obtain⟨q,t,u⟩:=wd.of h;rw[t]at b
  cases q with
  |lst e=>
   obtain⟨f,i,k⟩:=u;have b:Post X.g W α0 H0 (match G e with |some es=>R.ok _ _|none=>R.no) Q:=b;split at b
   .rename_i es m;refine⟨a,f,e,es,rfl,i,k,m,λd r=>?_⟩;have j:=wd.writex h (O4 i) (o:=.lst d);exact(b.shift (s.trans j)).val (wd.write h (O4 i) ⟨d,zV,r.ext j⟩) rG
   .exact b.elim
  |dic _=>exact b.elim
  |ins _ _=>exact b.elim
  |rcd _ _=>exact b.elim
  |fdc _=>exact b.elim
 .exact b.elim
def GF:Er->List Er->Sto->R Er
 |p,[r],S=>(dR r S).bind λy b=>QV p b λa=>if a.length<sizeLine then some (a++[y])else none
 |_,_,_=>.no
def Iz:YO X W Eh GF:=by
 intro p C x I α S u H Q f wd D q h b
 match C,h,b with
 |[],_,b=>exact b.elim
 |_::_::_,_,b=>exact b.elim
 |[r],h,b=>
  cases h with
  |cons d n l=>
   cases l;obtain⟨J,G,α',t,w,F,A,B⟩:=eX wd D d;have b:Post X.g W f u ((dR r S).bind λy v=>QV p v λj=>if j.length<sizeLine then some _ else none) Q:=b;rw[t]at b
   have e:DenX X.K α' H p x:=by
    cases p with
    |val m=>exact Den.ex0 F q
    |new j=>exact b.elim
   obtain⟨a,s,j,es,rfl,E,o,i,k⟩:=Iy A w e b;split at i
   .rename_i z;cases i;exact⟨a,s,_,rfl,rfl,E,by rw[o.length];exact z,k _ (o.append (yW B xB))⟩
   .cases i
def bV(k:yF X W a f)(i:IW X W (e::es) af)
  (hbase:attributeBase a "append" X.env (eval a X.env)=eval a X.env:=by rfl)
  (hfew:((backTo pos (starEach (e::es) X.env)).all (λx=>!x.1)&&(backToKw pos (keywordEach [] X.env)).all (λx=>x.1.isSome)
   &&decide ↑7)=true:=by rfl)
  (hline:(apos.endLine==pos.line)=true:=by rfl) (hs:q8 X e es:=by rfl) (hplain:q9 X pos es:=by rfl):
  yF X W (.Call (.Attribute a "append" apos) (e::es) [] pos) (λd S=>(f d S).bind λp b=>if eQ p b=true then(af d b).bind λj h=>GF p j h else .no):=
 vI PySem.F.plainAttrs_list PySem.F.slot_list_append PySem.F.type_list_append Ie Iz Ci k i hbase hfew hline hs hplain
def YV(p q:Er)(d:MV)(ρ:Rho)(S:Sto):R Rho:=match p,q with
 |.val (.loc l),.val (.int k)=>match S[l]? with
  |some (.lst ds)=>match QK ds.length k with
   |some j=>.ok ρ (S.set l (.lst (ds.set j d)))
   |none=>.no
  |_=>.no
 |_,_=>.no
def A1(F:yF X W o f)(hi:yF X W i g)
  (ha: ∀v,assign (.Subscript o i pos) X.env v=(do
   let s <-holding [v] (eval o X.env);let B <-holding [v,s] (eval i X.env)
   standAt pos
   holding [v,s,B] (setItem s B v)
   release [v,s,B] []):=by intro _;rfl):Zr X W (.Subscript o i pos) (λd e S=>(f e S).bind λp w=>(g e w).bind λq J=>YV p q d e J):=by
 obtain⟨to,F,P⟩:=F;obtain⟨ti,hi,U⟩:=hi;refine⟨_,Ku F hi set_list ha,λα e S σ H d v Q wd z de q=>P α e S σ H _ wd z (q.bind λu p w E H1 e1 n M T N=>U E e w σ H1 _ M (z.ext n) ((N.shift n).bind λu2 p2 J m O e2 r D L b=>?_))⟩
 replace b:=b.shift r
 have C:=DenX.ext r T.1;unfold YV at b;split at b
 .rename_i l k;obtain⟨a,rfl,h⟩:=pF C;cases xT L.1;obtain⟨K,Z,h2⟩:=D.of h;rw[Z]at b
  cases K with
  |lst ds=>
   obtain⟨G,y,I⟩:=h2;have b:Post X.g W m O (match QK ds.length k with |some j=>R.ok e _|none=>R.no) Q:=b;split at b
   .rename_i j Y;have A:=D.writex h (O4 y) (o:=.lst (G.set j v));have t:=((z.ext n).ext r).ext A;exact⟨a,G,k,j,rfl,rfl,y,by rw[I.length];exact Y,b σ m _ A (D.write h (O4 y) ⟨_,zV,(I.set ((de.ext n).ext r) j).ext A⟩) t⟩
   .exact b.elim
  |dic _=>exact b.elim
  |ins _ _=>exact b.elim
  |rcd _ _=>exact b.elim
  |fdc _=>exact b.elim
 .exact b.elim
end
def _root_.L2.Inv.turnedL{fp:B9}(I:↑1)(k: ∀b o,b∉fp->s.heap.get? b=some o->h'.get? b=some o)
  (hf: ∀b∈fp,pE X pins H b):Inv X pins σ H {s with heap:=h',toks:=t'}:=by
 have d: ∀b u,H b=some u->b∉fp:=λb u e z=>by rw[(hf b z).1]at e;cases e
 refine I.step (λb f=>⟨(hf b f).2.2.2.1,(hf b f).2.1,(hf b f).2.2.2.2.1,(hf b f).2.2.2.2.2⟩) (λb o _ _ a e _=>k b o a e) (λb o _ _ a e _=>⟨_,k b o a e⟩) (λ_ _ _ _ n=>n)
  (λb o a e=>⟨o,k b o a e⟩) (λ_ _ e=>e) (λ_ _ _ e=>e) (λb ps e=>⟨#[],by rw[e];simp⟩) (λm h=>?_) (λb u e=>?_) I.bare
 .obtain⟨o,es,j,i,r⟩:=h;exact⟨o,es,j,k _ o (λz=>(hf _ z).2.1 rfl) i,r⟩
 .refine(I.hok b u e).stay (λc v a q=>k c v ?_ q) (λ_ q=>q) λ_ _ q=>q;rcases a with z|z
  .rw[z];exact d b u e
  .exact d c _ z
def IsSub(k:Bool)(h:Heap)(a l:Addr)(i:Nat):Prop:=if k=true then h.IsListIter a l i else h.IsTupleIter a l i
def IsSeq(k:Bool)(h:Heap)(l:Addr)(a:B0):Prop:=if k=true then h.IsList l a else h.IsTuple l a
noncomputable def CD(k:Bool)(l:Addr):Obj:={cls:=.type (if k=true then "list_iterator" else "tuple_iterator"),data:=.fields #[.ref l,.int 0 0]}
def IsSub.mk'(e:h.get? it=some (CD k l)):IsSub k h it l 0:=by
 cases k with
 |true=>exact⟨_,e,rfl,rfl⟩
 |false=>exact⟨_,e,rfl,rfl⟩
def IsSub.there(x:IsSub k h it l i): ∃o,h.get? it=some o/\ ∀v,o.data≠.cell v:=by
 cases k with
 |true=>obtain⟨o,e,_,d⟩:=(x:h.IsListIter it l i);exact⟨o,e,λv z=>by rw[d]at z;cases z⟩
 |false=>obtain⟨o,e,_,d⟩:=(x:h.IsTupleIter it l i);exact⟨o,e,λv z=>by rw[d]at z;cases z⟩
def IsSub.move(x:IsSub k h it l i)(f: ∀o,h.get? it=some o->h'.get? it=some o):IsSub k h' it l i:=by
 cases k with
 |true=>obtain⟨o,e,r⟩:=(x:h.IsListIter it l i);exact⟨o,f o e,r⟩
 |false=>obtain⟨o,e,r⟩:=(x:h.IsTupleIter it l i);exact⟨o,f o e,r⟩
def IsSeq.move(x:IsSeq k h l its)(f: ∀o,h.get? l=some o->h'.get? l=some o):IsSeq k h' l its:=by
 cases k with
 |true=>obtain⟨o,e,r⟩:=(x:h.IsList l its);exact⟨o,f o e,r⟩
 |false=>obtain⟨o,e,r⟩:=(x:h.IsTuple l its);exact⟨o,f o e,r⟩
section
def CF(a:IsSeq k s.heap l its)(h:Q (.ref ↑0) {s with heap:=s.heap.push (CD k l)}):wpAny (model prog w) A (pyIter (.ref l)) Q E s:=by
 cases k with
 |true=>exact wpAny_pyIter_list a h
 |false=>exact wpAny_pyIter_tuple a h
def IA(b:IsSub k s.heap it l i)(m:IsSeq k s.heap l its)(j:its[i]? =some x)
  (hQ: ∀h',IsSub k h' it l (i+1)->Heap.SameBut it s.heap h'->Q x {s with heap:=h'}):wpAny (model prog w) A (Builtin.SmallTypes.nextOf (.ref it)) Q E s:=by
 cases k with
 |true=>exact wpAny_nextOf_list_item b m j hQ
 |false=>
  have a:=b;obtain⟨o,e,n,d⟩:=id a;obtain⟨p,h,_,q,f⟩:=(m:s.heap.IsTuple l its)
  refine wB (ā a.typeIs Ģ (ą Ģ a.typeIs F.entry_tuple_iterator_next ?_ (F.args_tuple_iterator_next_1 _)));show wpAny _ _ (field _ 0 >>= _) _ _ s;refine wB (ð e d rfl ?_);refine wB (ð e d rfl ?_);refine wB (ė h f ?_);simp only[Ĥ,j];refine wB (ĩ e d (by simp) (wP ⟨x,rfl,wP (hQ _ ?_ (Heap.SameBut.update ..))⟩));exact⟨_,ć _ e (ġ (Ď d _)),(Obj.cls_mapFields ..).trans n,by rw[Ď d];simp[rawInt]⟩
def VC(h:A.handled=none)(b:IsSub k s.heap it l i)(p:IsSeq k s.heap l its)(n:its[i]? =none)
  (hE: ∀h' e,Heap.ExtBut it s.heap h'->(∃o,h'.get? e=some o/\o.cls=.type "StopIteration")->E (.ref e) {s with heap:=h'}):wpAny (model prog w) A (Builtin.SmallTypes.nextOf (.ref it)) Q E s:=by
 cases k with
 |true=>exact wpAny_nextOf_list_end h b p n hE
 |false=>
  have a:=b;obtain⟨o,j,t,f⟩:=id a;obtain⟨q,m,_,r,d⟩:=(p:s.heap.IsTuple l its)
  refine wB (ā a.typeIs Ģ (ą Ģ a.typeIs F.entry_tuple_iterator_next ?_ (F.args_tuple_iterator_next_1 _)));show wpAny _ _ (field _ 0 >>= _) _ _ s;refine wB (ð j f (x:=.ref l) rfl ?_);refine wB (ð j f rfl ?_);refine wB (ė m d ?_);simp only[Ĥ,n];refine wB (wpAny_rule (wB (ĩ j f (by simp) ?_)));refine wB ?_;refine wB (ĥ ?_ (by size_fits));refine wB (wpAny_of_eq (by first |rfl|(simp only[firstArgMember];rfl)) ?_);refine ĥ ?_ (by size_fits);simp only[raiseNew];refine wB (wpAny_handled ?_)
  first |rw[show A.in1.handled=none from h]|rw[h]
  refine wB (wP (wpAny_throw ?_));exact hE _ _ (((Heap.SameBut.update ..).extBut.push _).push _) ⟨_,ä _ rfl,rfl⟩
end
structure ZipSt(k1 k2:Bool)(z TI TO i1 i2 l1 l2:Addr)(i:Nat)(h:Heap):Prop where
 z:IsZip h z TI TO .none
 ti:IsPair h TI (.ref i1) (.ref i2)
 to: ∃a b,IsPair h TO a b
 s1:IsSub k1 h i1 l1 i
 s2:IsSub k2 h i2 l2 i
structure Apart5(z TI TO i1 i2:Addr):Prop where
 TIz:TI≠z
 TOz:TO≠z
 i1z:i1≠z
 i2z:i2≠z
 TITO:TI≠TO
 TIi1:TI≠i1
 TIi2:TI≠i2
 TOi1:TO≠i1
 TOi2:TO≠i2
 i12:i1≠i2
section
variable{prog:Ķ}{w:World}{A:Around}{s:Ĵ}{TI TO:Addr}
def Off(l z TO a b:Addr):Prop:=l≠z/\l≠TO/\l≠a/\l≠b
def Mt{Q:VP}(D:Apart5 z TI TO i1 i2)(o1:Off l1 z TO i1 i2)(o2:Off l2 z TO i1 i2)(st:ZipSt k1 k2 z TI TO i1 i2 l1 l2 i s.heap)(P:IsSeq k1 s.heap l1 xs)(T:IsSeq k2 s.heap l2 ys)(hx:xs[i]? =some x)(hy:ys[i]? =some y)
  (hQ: ∀h',IsZip h' z TI TO (rawInt ↑0)->IsPair h' TO x y->IsSub k1 h' i1 l1 (i+1)->IsSub k2 h' i2 l2 (i+1)->IsPair h' ↑0 x y->
   (∀c o,c≠z->c≠TO->c≠i1->c≠i2->s.heap.get? c=some o->h'.get? c=some o)->Q (.ref ↑0) {s with heap:=h'}):
  wpAny (model prog w) A (Builtin.«zip.__next__» ⟨[.ref z],[]⟩) (λM s'=> ∃v,M=.done (.ret v)/\Q v s') E s:=by
 obtain⟨C,Y,⟨a,b,N⟩,h1,h2⟩:=st;show wpAny _ _ (field (.ref z) 2 >>= _) _ _ _;refine wB (ð C rfl (x:=.bool false) rfl ?_);show wpAny _ _ (field (.ref z) 3 >>= _) _ _ _;refine wB (ð C rfl (x:=.ref TI) rfl (wB (ė Y rfl ?_)));show wpAny _ _ _ _ _ _;refine wB ?_;unfold Builtin.SmallTypes.ownedTupleIsFree;refine wB (ð C rfl (x:=.none) rfl (wP ?_));simp only[if_true];refine wB (wpAny_rule (wB (ð C rfl (x:=.ref TO) rfl (wB (þ C (by simp) λha t h=>?_)))))
 replace t:IsZip ha z TI TO .ellipsis:=t
 refine wB ?_;simp only[zipIdx_cons,List.zipIdx_nil,forIn_cons,List.forIn_nil];refine wB (wB (wpAny_onRaise ?_));show wpAny _ _ _ _ _ _;refine wB (IA (h1.move λo e=>h.extBut _ _ D.i1z e) (P.move λo e=>h.extBut _ _ o1.1 e) hx λhb S k=>wP ?_);have B:IsPair hb TO a b:=k.extBut _ _ D.TOi1 (h.extBut _ _ D.TOz N);refine wB (ė B rfl (wB (wpAny_updateSeq_pair B λhc r p=>wB (wpAny_letGo (wP ?_)))))
 replace r:IsPair hc TO x b:=r
 refine wB (wB (wpAny_onRaise ?_));show wpAny _ _ _ _ _ _;have mv: ∀c o,c≠z->c≠TO->c≠i1->s.heap.get? c=some o->hc.get? c=some o:=λc o W J n3 e=>p.extBut _ _ J (k.extBut _ _ n3 (h.extBut _ _ W e));refine wB (IA (h2.move λo e=>mv _ o D.i2z D.TOi2.symm D.i12.symm e) (T.move λo e=>mv _ o o2.1 o2.2.1 o2.2.2.1 e) hy λhd ab f=>wP ?_);have u:IsPair hd TO x b:=f.extBut _ _ D.TOi2 r;refine wB (ė u rfl (wB (wpAny_updateSeq_pair u λd n j=>wB (wpAny_letGo (wP (wP ?_))))))
 replace n:IsPair d TO x y:=n
 refine wB (ė n rfl (wB (wpAny_newTuple ?_)));have H:d.objs.size=s.heap.objs.size:=by rw[j.1,f.1,p.1,k.1,h.1]
 have ze:IsZip d z TI TO .ellipsis:=j.extBut _ _ D.TOz.symm (f.extBut _ _ D.i2z.symm (p.extBut _ _ D.TOz.symm (k.extBut _ _ D.i1z.symm t)));have aa: ∀c o,c≠z->c≠TO->c≠i1->c≠i2->s.heap.get? c=some o->d.get? c=some o:=λc o W J n3 n4 e=>j.extBut _ _ J (f.extBut _ _ n4 (mv c o W J n3 e));have O:IsSub k1 d i1 l1 (i+1):=S.move λo e=>j.extBut _ _ D.TOi1.symm (f.extBut _ _ D.i12 (p.extBut _ _ D.TOi1.symm e));have U:IsSub k2 d i2 l2 (i+1):=ab.move λo e=>j.extBut _ _ D.TOi2.symm e;have q:z<d.objs.size:=ã ze;show wpAny _ _ _ _ _ _;refine wB ?_;unfold Builtin.SmallTypes.ownedTupleHandOut;have zf:IsZip (d.push {cls:=.type "tuple",data:=.seq #[x,y]}) z TI TO .ellipsis:=hP0 _ ze;refine wB (þ zf (by simp) λX Z I=>?_)
 replace Z:IsZip X z TI TO (rawInt d.objs.size):=Z
 refine þ Z (by simp) λm K F=>?_
 replace K:IsZip m z TI TO (rawInt d.objs.size):=K
 have L: ∀c o,c≠z->d.get? c=some o->m.get? c=some o:=λc o G e=>F.extBut _ _ G (I.extBut _ _ G (hP0 _ e));have tT:IsPair m d.objs.size x y:=F.extBut _ _ (û q) (I.extBut _ _ (û q) (ä _ rfl));rw[H]at K tT;refine wP ⟨_,rfl,?_⟩;show Q (.ref d.objs.size) _;rw[H];exact hQ m K (L _ _ D.TOz n) (O.move λo e=>L _ o D.i1z e) (U.move λo e=>L _ o D.i2z e) tT λc o G c2 c3 c4 e=>L c o G (aa c o G c2 c3 c4 e)
def Tp(X:A.handled=none)(D:Apart5 z TI TO i1 i2)(W:Off l1 z TO i1 i2)(U:Off l2 z TO i1 i2)(st:ZipSt k1 k2 z TI TO i1 i2 l1 l2 i s.heap)(r:IsSeq k1 s.heap l1 xs)(L:IsSeq k2 s.heap l2 ys)(t:xs[i]? =none\/ys[i]? =none)
  (hE: ∀h' e,(∀c o,c≠z->c≠TO->c≠i1->c≠i2->s.heap.get? c=some o->h'.get? c=some o)->(∃o,h'.get? e=some o/\o.cls=.type "StopIteration")->E (.ref e) {s with heap:=h'}):
  wpAny (model prog w) A (Builtin.«zip.__next__» ⟨[.ref z],[]⟩) Q E s:=by
 obtain⟨y,P,⟨a,b,H⟩,Y,h2⟩:=st;show wpAny _ _ (field (.ref z) 2 >>= _) _ _ _;refine wB (ð y rfl (x:=.bool false) rfl ?_);show wpAny _ _ (field (.ref z) 3 >>= _) _ _ _;refine wB (ð y rfl (x:=.ref TI) rfl (wB (ė P rfl ?_)));show wpAny _ _ _ _ _ _;refine wB ?_;unfold Builtin.SmallTypes.ownedTupleIsFree;refine wB (ð y rfl (x:=.none) rfl (wP ?_));simp only[if_true];refine wB (wpAny_rule (wB (ð y rfl (x:=.ref TO) rfl (wB (þ y (by simp) λha n d=>?_)))))
 replace n:IsZip ha z TI TO .ellipsis:=n
 refine wB ?_;simp only[zipIdx_cons,List.zipIdx_nil,forIn_cons,List.forIn_nil];refine wB (wB (wpAny_onRaise ?_));show wpAny _ _ _ _ _ _
 cases N:xs[i]? with
 |none=>
  refine wB (VC X (Y.move λo e=>d.extBut _ _ D.i1z e) (r.move λo e=>d.extBut _ _ W.1 e) N λS e j M=>?_);obtain⟨K,f,k⟩:=M;have v:IsZip S z TI TO .ellipsis:=j _ _ D.i1z.symm n;have p:e≠z:=λq=>by subst q;rw[v]at f;cases f;simp at k
  exact þ v (by simp) λJ _ m=>hE J e (λc o F _ I _ q=>m.extBut _ _ F (j _ _ I (d.extBut _ _ F q))) ⟨K,m.extBut _ _ p f,k⟩
 |some x=>
  have hy:ys[i]? =none:=by rcases t with h|h;(rw[N]at h;cases h);exact h
  refine wB (IA (Y.move λo e=>d.extBut _ _ D.i1z e) (r.move λo e=>d.extBut _ _ W.1 e) N λS Z j=>wP ?_);have u:IsPair S TO a b:=j.extBut _ _ D.TOi1 (d.extBut _ _ D.TOz H);refine wB (ė u rfl (wB (wpAny_updateSeq_pair u λJ aa m=>wB (wpAny_letGo (wP ?_)))));refine wB (wB (wpAny_onRaise ?_));show wpAny _ _ _ _ _ _;have T: ∀c o,c≠z->c≠TO->c≠i1->s.heap.get? c=some o->J.get? c=some o:=λc o n1 n2 n3 e=>m.extBut _ _ n2 (j.extBut _ _ n3 (d.extBut _ _ n1 e));refine wB (VC X (h2.move λo e=>T _ o D.i2z D.TOi2.symm D.i12.symm e) (L.move λo e=>T _ o U.1 U.2.1 U.2.2.1 e) hy λhd e B M=>?_);obtain⟨K,f,k⟩:=M;have C:IsZip hd z TI TO .ellipsis:=B _ _ D.i2z.symm (m.extBut _ _ D.TOz.symm (j.extBut _ _ D.i1z.symm n));have p:e≠z:=λq=>by subst q;rw[C]at f;cases f;simp at k
  exact þ C (by simp) λO _ G=>hE O e (λc o F c2 I c4 q=>G.extBut _ _ F (B _ _ c4 (T c o F c2 I q))) ⟨K,G.extBut _ _ p f,k⟩
def Cj(k1 k2)(l1 l2)(xs ys):
  Meets (Builtin.«zip.__new__» ⟨[.type "zip",.ref l1,.ref l2],[]⟩) (λ_ R s=>IsSeq k1 s.heap l1 xs/\IsSeq k2 s.heap l2 ys/\
   R (.ok (.ret (.ref (↑0+4)))) {s with heap:=((((s.heap.push (CD k1 l1)).push (CD k2 l2)).push {cls:=.type "tuple",data:=.seq #[.ref ↑0,.ref (↑0+1)]}).push {cls:=.type "tuple",data:=.seq #[.none,.none]}).push {cls:=.type "zip",data:=.fields #[.none,.bool false,.bool false,.ref (↑0+2),.ref (↑0+3)]}}):=
 .of_wp λprog w A R s h=>by
  obtain⟨m,g,d,n,os⟩:=s;obtain⟨a,f,h⟩:=h;have k:=sub_zip;have i:IsSeq k1 _ l1 xs:=a;have b:IsSeq k2 (Shared.heap ⟨m.push (CD k1 l1),g,d,n,os⟩) l2 ys:=f.move λo e=>hP0 _ e;have j: ∀(h:Heap)(o:Obj),(h.push o).objs.size=h.objs.size+1:=λh o=>ù ..;simp only[j]at h ⊢
  wp_walk using CF i,CF b
  exact⟨_,rfl,by simp only[j];exact h⟩
def Mu(j:IsSeq k1 s.heap l1 xs)(i:IsSeq k2 s.heap l2 ys)
  (h: ∀h',ZipSt k1 k2 (↑0+4) (↑0+2) (↑0+3) ↑0 (↑0+1) l1 l2 0 h'->(∀c o,s.heap.get? c=some o->h'.get? c=some o)->Q (.ref (↑0+4)) {s with heap:=h'}):
  wpAny (model prog w) A (call (.type "zip") [.ref l1,.ref l2]) Q E s:=by
 refine callType_new F.called_zip ↑4 (F.typeCall_zip_2 _ _) (F.newCall_zip_2 _ _) (λf=>F.args_object_init_3 f _ _) F.entry_zip_new (Cj k1 k2 l1 l2 xs ys) ⟨j,i,?_⟩;have d: ∀(h:Heap)(o:Obj),(h.push o).objs.size=h.objs.size+1:=λh o=>ù ..;have b: ∀(h:Heap)(o:Obj)(n:Nat),o.isFreed=false->h.objs.size=n->(h.push o).get? n=some o:=λh o n k e=>by subst e;exact ä _ k
 have a: ∀(h:Heap)(o u:Obj)(n:Nat),h.get? n=some u->(h.push o).get? n=some u:=λh o u n e=>hP0 _ e;refine⟨⟨_,b _ _ _ rfl (by simp only[d]),rfl⟩,h _ ⟨b _ _ _ rfl (by simp only[d]),a _ _ _ _ (a _ _ _ _ (b _ _ _ rfl (by simp only[d]))),⟨.none,.none,a _ _ _ _ (b _ _ _ rfl (by simp only[d]))⟩,?_,?_⟩ λc o e=>a _ _ _ _ (a _ _ _ _ (a _ _ _ _ (a _ _ _ _ (a _ _ _ _ e))))⟩
 .exact IsSub.mk' (a _ _ _ _ (a _ _ _ _ (a _ _ _ _ (a _ _ _ _ (b _ _ _ rfl rfl)))))
 .exact IsSub.mk' (a _ _ _ _ (a _ _ _ _ (a _ _ _ _ (b _ _ _ rfl (by simp only[d])))))
end
theorem apart_new(n:Nat):Apart5 (n+4) (n+2) (n+3) n (n+1):=by constructor<;>(show(_:Nat)≠_;lia)
def QW(k:Bool)(K:P0)(H:Hp)(a:Addr)(xs:List V):Prop:=if k=true then SqL K H a xs else SqT K H a xs
def Itz(K:P0)(k1 k2:Bool)(b d:Addr):It:=
 ⟨λi H=> ∃xs a x y,QW k1 K H b xs/\QW k2 K H d a/\xs[i]? =some x/\a[i]? =some y,
   λi H v H'=> ∃p x y,H p=none/\v=.ref p/\H'=jL H p (.tup [x,y])/\(∀xs,QW k1 K H b xs->xs[i]? =some x)/\ ∀a,QW k2 K H d a->a[i]? =some y,
   λi H=> ∃xs a,QW k1 K H b xs/\QW k2 K H d a/\(xs.length<=i\/a.length<=i)⟩
section
def _root_.L2.Inv.seqK(I:↑1)(h:QW k X.K H a xs): ∃b:List ĵ,Vals xs b/\IsSeq k s.heap a b.toArray/\xs.length<=sizeLine:=by
 cases k with
 |true=>obtain⟨b,r,p,z⟩:=I.list h;exact⟨b,r,p.isList,z⟩
 |false=>obtain⟨b,r,p,z⟩:=I.tuple h;exact⟨b,r,p,z⟩
def _root_.L2.Inv.seqK_inj(I:↑1)(h:QW k X.K H a xs)(h':QW k X.K H a ys):xs=ys:=by
 cases k with
 |true=>exact I.list_inj h h'
 |false=>exact I.tuple_inj h h'
def rP(I:↑1)(h:QW k X.K H l xs)(a:pE X pins H b):l≠b:=by
 rintro rfl
 have d: ∀o,X.K.lookup l=some o->False:=λo e=>by
  have f:=I.mod.kin l o e;rcases a.2.2.2.1 with z|z
  .exact I.ok.noex l o f z
  .exact absurd (æ (ã f) (ç I.ok.bsz z)) (ĳ _)
 cases k with
 |true=>
  rcases (h:SqL X.K H l xs)with(h|⟨o,h⟩)|⟨o,its,n,h,_⟩
  .rw[a.1]at h;cases h
  .rw[a.1]at h;cases h
  .exact d o h
 |false=>
  rcases (h:SqT X.K H l xs)with(h|⟨o,h⟩)|⟨o,its,n,h,_⟩
  .rw[a.1]at h;cases h
  .rw[a.1]at h;cases h
  .exact d o h
end
theorem Mv{K:P0}{TI TO i1 i2 l1 l2:Addr}(D:Apart5 z TI TO i1 i2):
  Turn P w K (.Tuple elts kt pt) (Itz K k1 k2 l1 l2) [z,TI,TO,i1,i2] z (λi h=>ZipSt k1 k2 z TI TO i1 i2 l1 l2 i h) where
 mem:=by simp
 obj:=λi h st b hb=>by
  obtain⟨hz,hTI,⟨a,b',hTO⟩,h1,h2⟩:=st;have hb':b=z\/b=TI\/b=TO\/b=i1\/b=i2:=by simpa using hb
  rcases hb' with rfl|rfl|rfl|rfl|rfl
  .exact⟨_,hz,λv q=>by cases q⟩
  .exact⟨_,hTI,λv q=>by cases q⟩
  .exact⟨_,hTO,λv q=>by cases q⟩
  .exact h1.there
  .exact h2.there
 keep:=λi h h' st k=>by obtain⟨hz,hTI,⟨a,b',hTO⟩,h1,h2⟩:=st;exact⟨k z (by simp) _ hz,k TI (by simp) _ hTI,⟨a,b',k TO (by simp) _ hTO⟩,h1.move λo e=>k i1 (by simp) o e,h2.move λo e=>k i2 (by simp) o e⟩
 item:=by
  intro X hP hw hK hc i pins s σ H E I hf st hg;subst hP hw hK;obtain⟨xs,ys,x,y,q1,q2,hx,hy⟩:=hg;obtain⟨its,r1,p1,_⟩:=I.seqK q1;obtain⟨its2,r2,p2,_⟩:=I.seqK q2;obtain⟨u,hu,ru⟩:=r1.get hx;obtain⟨v,hv,rv⟩:=r2.get hy;have off: ∀{k:Bool}{l:Addr}{xs:List V},QW k X.K H l xs->Off l z TO i1 i2:=λq=>⟨rP I q (hf z (by simp)),rP I q (hf TO (by simp)),rP I q (hf i1 (by simp)),rP I q (hf i2 (by simp))⟩
  have hT:s.TypeIs (.ref z) "zip":=⟨_,st.z,rfl⟩
  unfold pyNext
  refine wB (wpAny_attempt (ā hT F.slot_zip_next (ą F.slot_zip_next hT F.entry_zip_next
   (Mt D (off q1) (off q2) st p1 p2 (x:=u) (y:=v) (by simpa using hu) (by simpa using hv) λh' a1 a2 a3 a4 a5 a6=>wP ⟨_,rfl,?_⟩) (F.args_zip_next_1 _))))
  refine wpAny_letOwnedTupleGo_zip a1 λh2 z2 sb2=>?_;have hpn:H ↑0=none:=I.hok.fresh (à _)
  have I0:Inv X pins σ _ {s with heap:=s.heap.push {cls:=.type "tuple",data:=.seq #[u,v]}}:=
   I.laid (t':=s.toks) (o:=.tup [x,y]) (λb o e=>hP0 _ e) (à _) ⟨by show 2<=sizeLine;decide,[u,v],.cons ru (.cons rv .nil),⟨_,ä _ rfl,rfl,_,rfl⟩⟩
  have lt: ∀b∈[z,TI,TO,i1,i2],b<s.heap.objs.size:=λb hb=>by
   have: ∃o,s.heap.get? b=some o:=by
    obtain⟨hz,hTI,⟨a,b',hTO⟩,g1,g2⟩:=st;have hb':b=z\/b=TI\/b=TO\/b=i1\/b=i2:=by simpa using hb
    rcases hb' with rfl|rfl|rfl|rfl|rfl
    .exact⟨_,hz⟩
    .exact⟨_,hTI⟩
    .exact⟨_,hTO⟩
    .obtain⟨o,e,_⟩:=g1.there;exact⟨o,e⟩
    .obtain⟨o,e,_⟩:=g2.there;exact⟨o,e⟩
   obtain⟨o,e⟩:=this;exact ã e
  have fr: ∀b∈[z,TI,TO,i1,i2],jL H ↑0 (.tup [x,y]) b=none:=λb hb=>by rw[zP (é (lt b hb))];exact(hf b hb).1
  have zne:↑0≠z:=û (lt z (by simp))
  have mv: ∀b o,b∉[z,TI,TO,i1,i2]->(s.heap.push {cls:=.type "tuple",data:=.seq #[u,v]}).get? b=some o->h2.get? b=some o:=λb o hb e=>by
   simp only[mC,nM,or_false,not_or]at hb;refine sb2.extBut _ _ hb.1 ?_;by_cases hbs:b=↑0
   .subst hbs;rw[ä _ rfl]at e;cases e;exact a5
   .rw[Heap.get?_push_ne _ _ _ hbs]at e;exact a6 b o hb.1 hb.2.2.1 hb.2.2.2.1 hb.2.2.2.2 e
  have I2:=I0.turnedL (h':=h2) (t':=s.toks) mv λb hb=>let ⟨_,c2,c3,c4,c5,c6⟩:=hf b hb;⟨fr b hb,c2,c3,c4,c5,c6⟩;refine⟨.ref ↑0,_,I2,rfl,⟨↑0,x,y,hpn,rfl,rfl,λzs hz=>?_,λzs hz=>?_⟩,⟨z2,?_,⟨u,v,?_⟩,?_,?_⟩,fr⟩
  .rw[I.seqK_inj hz q1];exact hx
  .rw[I.seqK_inj hz q2];exact hy
  .exact sb2.extBut _ _ D.TIz (a6 TI _ D.TIz D.TITO D.TIi1 D.TIi2 st.ti)
  .exact sb2.extBut _ _ D.TOz a2
  .exact a3.move λo e=>sb2.extBut _ _ D.i1z e
  .exact a4.move λo e=>sb2.extBut _ _ D.i2z e
 done:=by
  intro X hP hw hK hc i pins s σ H E I hf st hg;subst hP hw hK;obtain⟨xs,ys,q1,q2,hx⟩:=hg;obtain⟨its,r1,p1,_⟩:=I.seqK q1;obtain⟨its2,r2,p2,_⟩:=I.seqK q2;have off: ∀{k:Bool}{l:Addr}{xs:List V},QW k X.K H l xs->Off l z TO i1 i2:=λq=>⟨rP I q (hf z (by simp)),rP I q (hf TO (by simp)),rP I q (hf i1 (by simp)),rP I q (hf i2 (by simp))⟩
  have hT:s.TypeIs (.ref z) "zip":=⟨_,st.z,rfl⟩
  have e1:=r1.length;have e2:=r2.length;unfold pyNext
  refine wB (wpAny_attempt (ā hT F.slot_zip_next (ą F.slot_zip_next hT F.entry_zip_next
   (Tp (I.ok.hd hc) D (off q1) (off q2) st p1 p2 (by rcases hx with h|h;(exact .inl (by simp;lia));exact .inr (by simp;lia)) λh' e hk he=>?_) (F.args_zip_next_1 _))))
  obtain⟨o,ho,hcl⟩:=he;refine wB (wpAny_isInstance (b:=true) ⟨o,ho,hcl⟩ isSubtype_stop (wP ⟨rfl,?_⟩));refine I.turnedL (h':=h') (t':=s.toks) (λb o hb e=>?_) hf;simp only[mC,nM,or_false,not_or]at hb;exact hk b o hb.1 hb.2.2.1 hb.2.2.2.1 hb.2.2.2.2 e
 self:=λ_ _ _ _ _ st h=>wpAny_pyIter_zip st.z h
structure Sr where
 k:Bool
 ds:List MV
 gs:List (Nat×List MV)
noncomputable def srcOf(S:Sto):Er->Option Sr
 |.val (.tup ds)=>some ⟨false,ds,[]⟩
 |.new ds=>some ⟨true,ds,[]⟩
 |.val (.scr ds)=>some ⟨true,ds,[]⟩
 |.val (.loc l)=>match S[l]? with
  |some (.lst ds)=>some ⟨true,ds,[(l,ds)]⟩
  |_=>none
 |_=>none
structure SrcD(X:Cx)(q:Sr)(l:Addr)(P:List Addr->Sto->Hp->Prop):Prop where
 get: ∀α S H,P α S H-> ∃vs,QW q.k X.K H l vs/\DenL X.K α H q.ds vs
 stays: ∀α1 S1 H1 α2 S2 H2,P α1 S1 H1->Ext α1 H1 α2 H2->Wd X.g α2 S2 H2->stay q.gs S2->P α2 S2 H2
 st: ∀α S H,P α S H->stay q.gs S
def OQ(wd:Wd X.g α S H)(e:srcOf S r=some q)(d:DenX X.K α H r x): ∃l P,x=.ref l/\P α S H/\SrcD X q l P:=by
 unfold srcOf at e;split at e
 .rename_i k;cases e;obtain⟨a,f,rfl,s,l⟩:=nQ d;exact⟨a,λα S H=> ∃f,_,rfl,⟨f,s,l⟩,λα S H h=>h,λo u z m y v ⟨f,i,j⟩ x w _=>⟨f,x.sqT i,j.ext x⟩,λ_ _ _ _=>nS⟩
 .rename_i k;cases e;obtain⟨b,f,rfl,h,n,l⟩:=d
  exact⟨b,λα S H=> ∃f,H b=some (.lst f)/\b∉α/\DenL X.K α H k f,rfl,⟨f,h,n,l⟩,λα S H ⟨f,i,_,j⟩=>⟨f,(SqL.of i:SqL X.K H b f),j⟩,
   λo u z m y v ⟨f,i,j,F⟩ x w _=>⟨f,x.keep b _ i j,x.out i j,F.ext x⟩,λ_ _ _ _=>nS⟩
 .rename_i k;cases e;obtain⟨a,f,rfl,s,l⟩:=OG d;exact⟨a,λα S H=> ∃f,SqF X.K H a f/\DenL X.K α H k f,rfl,⟨f,s,l⟩,λα S H ⟨f,i,j⟩=>⟨f,i.l,j⟩,λo u z m y v ⟨f,i,j⟩ x w _=>⟨f,x.sqF i,j.ext x⟩,λ_ _ _ _=>nS⟩
 .rename_i n;split at e
  .rename_i k C;cases e;obtain⟨a,rfl,h⟩:=pF d;obtain⟨f,i,j⟩:=wd.obj n a _ h C;refine⟨a,λα S H=> ∃f,H a=some (.lst f)/\DenL X.K α H k f/\α[n]? =some a/\S[n]? =some _,rfl,⟨f,i,j,h,C⟩,λα S H ⟨f,i,j,_⟩=>⟨f,(SqL.of i:SqL X.K H a f),j⟩,?_,?_⟩
   .intro o u z m y v ⟨f,L,J,A,B⟩ x w hs;have t:=hs (n,k) (by simp);obtain⟨D,I,G⟩:=w.obj n a _ (x.at A) t;exact⟨D,I,G,x.at A,t⟩
   .intro α S H ⟨f,_,_,_,B⟩ p E;have:=by simpa using E
    subst this;exact B
  .cases e
 .cases e
def iZip(K:P0)(j:TA):TI:=λσ H R=>j σ H λi b=> ∃e f a d,i=[.ref a,.ref d]/\(∃xs,QW e K b a xs)/\(∃h,QW f K b d h)/\R (Itz K e f a d) b
section
variable{a b:Expr}{elts:O0}{kt:Nat}{pt p pos:Pos}
def A2:bootBuiltins "zip"=some (.type "zip"):=by decide+kernel
def Tq:bootBuiltins "enumerate"=some (.type "enumerate"):=by decide+kernel
def A3(t:Gl X "zip")(hm:X.mg "zip"=none)(y:PA X [a,b] ta)(hs:starEach [a,b] X.env=[(false,eval a X.env),(false,eval b X.env)]:=by rfl)(d:starEach [b] X.env=[(false,eval b X.env)]:=by rfl):
  PI X (.Tuple elts kt pt) (.Call (.Name "zip" p) [a,b] [] pos) (iZip X.K ta):=by
 intro pins s σ H R I h;refine Call_ (JA I t hm A2 (ğ (kL (y pos pins s σ H _ I h) λB s1 ⟨J,j,I1,A,n⟩=>?_) (by rw[hs,d]) (by rw[d];rfl)));obtain⟨E,M,L,C,rfl,⟨xs,u⟩,⟨G,v⟩,q⟩:=n
 cases A with
 |cons r rr=>
  cases rr with
  |cons r' rr=>
   cases rr;cases r;cases r';obtain⟨m,D,p1,_⟩:=I1.seqK u;obtain⟨i,F,p2,_⟩:=I1.seqK v;refine Mu p1 p2 λh' st k=>wpAny_pyIter_zip st.z ?_;have o:Inv X pins σ j {s1 with heap:=h'}:=I1.kept k;refine⟨_,_,_,_,j,rfl,o,Mv (apart_new _),st,λb w=>?_,q⟩
   have e:s1.heap.objs.size<=b:=by
    have f:=by simpa using w
    rcases f with h|h|h|h|h<;>rw[h]<;>(first |exact à _|exact Nat.le_add_right _ _)
   exact I1.fpOk e (I1.hok.fresh e)
noncomputable def pairs(xs a:R0):List MV:=List.zipWith (λx y=>.tup [x,y]) xs a
def zAH(rs:List Er)(S:Sto):R Wk:=match rs with
 |[p,q]=>match srcOf S p with
  |some a=>match srcOf S q with
   |some b=>.ok ⟨pairs a.ds b.ds,a.gs++b.gs⟩ S
   |none=>.no
  |none=>.no
 |_=>.no
theorem A4(hg:Gl X "zip")(hm:X.mg "zip"=none)(L:IW X W [a,b] af)(hs:starEach [a,b] X.env=[(false,eval a X.env),(false,eval b X.env)]:=by rfl)(I:starEach [b] X.env=[(false,eval b X.env)]:=by rfl):
  PIm X W (.Tuple elts kt pt) (.Call (.Name "zip" p) [a,b] [] pos) (λD S=>(af D S).bind zAH):=by
 obtain⟨t,L,k⟩:=L;refine⟨_,A3 hg hm L hs I,λα D S σ H Rc wd sl q=>k α D S σ H _ wd sl (q.bind λvs rs S1 F H1 e x1 M d1 j=>?_)⟩
 replace j:=j.shift x1
 unfold zAH at j;split at j
 .rename_i r1 r2;split at j
  .rename_i s1 e1;split at j
   .rename_i B e2;obtain⟨u,v,rfl,du,dv⟩:=V4 d1;obtain⟨l1,P1,rfl,p1,s⟩:=OQ M e1 du;obtain⟨Z,P2,rfl,p2,r⟩:=OQ M e2 dv;have g1:=s.get _ _ _ p1;have U:=r.get _ _ _ p2;refine⟨s1.k,B.k,l1,Z,rfl,⟨_,g1.choose_spec.1⟩,⟨_,U.choose_spec.1⟩,j.here M ⟨λα S H=>P1 α S H/\P2 α S H,?_,⟨p1,p2⟩,?_,?_⟩⟩
    .intro i E S2 H2 ⟨z,A⟩ O;obtain⟨n,J,P⟩:=s.get _ _ _ z;obtain⟨ws,G,T⟩:=r.get _ _ _ A;have hl:(pairs s1.ds B.ds).length=min n.length ws.length:=by unfold pairs;rw[List.length_zipWith,P.length,T.length]
     refine⟨λhi=>?_,λhi=>?_⟩
     .have hi:i<(pairs s1.ds B.ds).length:=hi;have K:i<n.length:=by lia
      have h2:i<ws.length:=by lia
      refine⟨⟨n,ws,n[i],ws[i],J,G,gE K,gE h2⟩,?_⟩;rintro x H' ⟨pp,N,Q,m,rfl,rfl,hx,hy⟩;obtain⟨d,hd,dd⟩:=P.get (hx n J);obtain⟨f,Y,df⟩:=T.get (hy ws G);have y:=O.newx (o:=.tup [N,Q]) m;have C:=O.new (o:=.tup [N,Q]) m;refine⟨y,C,⟨s.stays _ _ _ _ _ _ z y C (s.st _ _ _ z),r.stays _ _ _ _ _ _ A y C (r.st _ _ _ A)⟩,.tup [d,f],?_,?_⟩
      .unfold pairs;rw[List.getElem?_zipWith,hd,Y]
      .exact rH (.of zV) (yW (dd.ext y) (yW (df.ext y) xB))
     .have hi:(pairs s1.ds B.ds).length<=i:=hi;refine⟨n,ws,J,G,?_⟩;by_cases K:n.length<=i
      .exact .inl K
      .exact .inr #[0]
    .intro F S1 H1 E S2 H2 ⟨z,A⟩ x w hs;exact⟨s.stays _ _ _ _ _ _ z x w λp m=>hs p (ÿ _ m),r.stays _ _ _ _ _ _ A x w λp m=>hs p (î _ m)⟩
    .intro p m;rcases ê.mp m with h|h
     .exact s.st _ _ _ p1 p h
     .exact r.st _ _ _ p2 p h
   .exact j.elim
  .exact j.elim
 .exact j.elim
end
structure EnSt(k:Bool)(e it l:Addr)(i:Nat)(h:Heap):Prop where
 e: ∃old,IsEnum h e it i old
 s:IsSub k h it l i
section
variable{prog:Ķ}{w:World}{A:Around}{i:Nat}
def Tr{Q:VP}(O:IsEnum s.heap e it i old)(T:IsSub k s.heap it l i)(hl:IsSeq k s.heap l its)(hx:its[i]? =some x)(p:e≠it)
  (hQ: ∀h',IsEnumOut h' e it ( i +1) x ↑0->IsSub k h' it l (i+1)->h'.get? ↑0=some {cls:=.type "tuple",data:=.seq #[.int i s.toks,x]}->
   (∀b o,b≠e->b≠it->s.heap.get? b=some o->h'.get? b=some o)->Q (.ref ↑0) {s with heap:=h',toks:=s.toks+1}):
  wpAny (model prog w) A (Builtin.«enumerate.__next__» ⟨[.ref e],[]⟩) (λJ s'=> ∃v,J=.done (.ret v)/\Q v s') E s:=by
 obtain⟨t,g,d,r,os⟩:=s;show wpAny _ _ (field (.ref e) 2 >>= _) _ _ _;refine wB (ð O rfl rfl (wB (IA T hl hx λC P h=>?_)))
 replace h:Heap.SameBut it t C:=h
 have Y:IsEnum C e it i old:=(h.2 e p).trans O;show wpAny _ _ _ _ _ ⟨C,g,d,r,os⟩;refine wB (ð Y rfl rfl ?_);show wpAny _ _ _ _ _ ⟨C,g,d,r,os⟩;refine wB (ð Y rfl rfl ?_);show wpAny _ _ (mkInt i >>= _) _ _ ⟨C,g,d,r,os⟩;refine wB (wpAny_mkInt ?_);show wpAny _ _ _ _ _ ⟨C,g,d,_,os⟩;refine wB (þ Y (by simp) λI U a=>?_)
 replace a:Heap.SameBut e C I:=a
 replace U:IsEnum I e it ((i:Int)+1) old:=U
 show wpAny _ _ _ _ _ ⟨I,g,d,_,os⟩;refine wB (þ U (by simp) λm N f=>?_)
 replace f:Heap.SameBut e I m:=f
 replace N:IsEnum m e it ((i:Int)+1) old:=N
 show wpAny _ _ _ _ _ ⟨m,g,d,_,os⟩;refine wB (wpAny_newTuple ?_);have F:m.objs.size=t.objs.size:=by rw[f.1,a.1,h.1]
 have L:e<t.objs.size:=ã O;have G:IsEnum (m.push {cls:=.type "tuple",data:=.seq #[.int i r,x]}) e it ((i:Int)+1) old:=hP0 _ N;have td:(m.push {cls:=.type "tuple",data:=.seq #[.int i r,x]}).get? t.objs.size=some {cls:=.type "tuple",data:=.seq #[.int i r,x]}:=by rw[<-F];exact ä _ rfl
 have kd: ∀b o,b≠e->b≠it->t.get? b=some o->(m.push {cls:=.type "tuple",data:=.seq #[.int i r,x]}).get? b=some o:=λb o D M q=>
  hP0 _ (f.extBut b o D (a.extBut b o D (h.extBut b o M q)))
 have Z:IsSub k (m.push {cls:=.type "tuple",data:=.seq #[.int i r,x]}) it l (i+1):=P.move λo q=>hP0 _ (f.extBut _ o (Ne.symm p) (a.extBut _ o (Ne.symm p) q));generalize m.push {cls:=.type "tuple",data:=.seq #[.int i r,x]}=hd at G td kd Z ⊢;show wpAny _ _ _ _ _ ⟨hd,g,d,_,os⟩;rw[F];refine wB ?_;unfold Builtin.SmallTypes.ownedTupleIsFree;refine wB (ð G rfl rfl (wP ?_));simp only[if_true];refine wB (wpAny_rule (wB (ð G rfl rfl (wB (þ G (by simp) λH K u=>?_)))))
 replace u:Heap.SameBut e hd H:=u
 replace K:IsEnum H e it ((i:Int)+1) x:=K
 show wpAny _ _ _ _ _ ⟨H,g,d,_,os⟩;refine wB ?_;unfold Builtin.SmallTypes.ownedTupleHandOut;refine wB (þ K (by simp) λy S B=>?_)
 replace B:Heap.SameBut e H y:=B
 replace S:IsEnumOut y e it ((i:Int)+1) x t.objs.size:=S
 refine þ S (by simp) λj W z=>?_
 replace z:Heap.SameBut e y j:=z
 replace W:IsEnumOut j e it ((i:Int)+1) x t.objs.size:=W
 have X: ∀b o,b≠e->hd.get? b=some o->j.get? b=some o:=λb o n q=>z.extBut b o n (B.extBut b o n (u.extBut b o n q));exact wB (wpAny_letGo (wP ⟨_,rfl,hQ j W (Z.move λo q=>X _ o (Ne.symm p) q) (X _ _ (û L) td) λb o D M q=>X b o D (kd b o D M q)⟩))
def Ck(k)(l)(its):
  Meets (Builtin.«enumerate.__new__» ⟨[.type "enumerate",.ref l],[]⟩) (λ_ R s=>IsSeq k s.heap l its/\
   R (.ok (.ret (.ref (↑0+1)))) {s with heap:=(s.heap.push (CD k l)).push {cls:=.type "enumerate",data:=.fields #[.none,.bool false,.ref ↑0,rawInt 0,.none,.none]}}):=
 .of_wp λprog w A R s h=>by
  obtain⟨i,g,d,j,os⟩:=s;obtain⟨f,h⟩:=h;have e:=sub_enumerate;have b:=f;have a: ∀(h:Heap)(o:Obj),(h.push o).objs.size=h.objs.size+1:=λh o=>ù ..
  wp_walk
  refine wpAny_stack_any λst=>wP ?_;split
  .rename_i c _ _ _ _ _;cases (c==Value.type "enumerate")
   .wp_walk using CF b
    exact⟨_,rfl,by simp only[a];exact h⟩
   .wp_walk using CF b
    exact⟨_,rfl,by simp only[a];exact h⟩
  .wp_walk using CF b
   exact⟨_,rfl,by simp only[a];exact h⟩
end
def SU(K:P0)(F:List MV->Sto->R Er):Sp:=λb H Q _=> ∃a,DenL K [] H a b/\a.length=1/\ ∀g:Gm,g.K=K->Post g W0 [] H (F a []) Q
def Mw: ∀b H Q E,SU g.K F b H Q E->XS g 1 F b H Q E:=λb H Q E ⟨d,l,e,q⟩=>⟨[],[],d,⟨rfl,by simp,λl a o h=>by simp at h⟩,l,e,q g rfl⟩
def A5{K:P0}(b:Li H)(h:SqL K H a xs):SqF K H a xs:=by
 rcases h with(h|⟨o,h⟩)|h
 .rcases b a with z|⟨o,ys,z⟩
  .rw[z]at h;cases h
  .rw[z]at h;cases h
 .exact .inl ⟨o,h⟩
 .exact .inr h
def Mx{K:P0}{ns:Za}(b:Li H)(e:SqL K H a (ns.map V.int))(h: ∃S,F [.scr (ns.map MV.int)] []=.ok (.val (.bl true)) S):SU K F [.ref a] H (λv _=>v=.bl true) λ_ _ _=>False:=by obtain⟨S,h⟩:=h;refine⟨_,yW (Em (A5 b e) (SJ ns)) xB,rfl,λg _=>?_⟩;rw[h];exact λv α' H' x w d=>uO d.1
theorem cW(b)(S)(k:β->Sto->R γ):(R.ok b S).bind k=k b S:=by have h:=R.bind_ok b S k;exact Eq.trans h rfl
theorem Ts(d)(S):Sk (some (some d)) S=.ok (.val d) S:=rfl
theorem IB:Et S (S++T):=⟨by rw[lA];lia,λl a=>.inl (á a)⟩
def sI(n)(i):lo n (.int i):=by unfold lo;trivial
def dS(n)(i):lo n (.str i):=by unfold lo;trivial
def LL(n)(i):lo n (.bl i):=by unfold lo;trivial
def JS(n):lo n .non:=by unfold lo;trivial
def dU(h:MD n ds):lo n (.tup ds):=by unfold lo;exact h
def A6(h:l<n):lo n (.loc l):=by unfold lo;exact h
theorem kN: ∀{ds},(∀d∈ds,lo n d)->MD n ds
 |[],_=>by unfold MD;trivial
 |d::ds,h=>by unfold MD;exact⟨h d mF0,kN λe a=>h e (mO _ a)⟩
def OR(h:lo ↑5 d)(a: ∀l,d≠.loc l):oE S (.val d) (S++T)=.ok (.val d) S:=by
 unfold oE;rw[iP IB];have e:(S++T).take ↑5=S:=by simp
 cases d with
 |loc l=>exact absurd rfl (a l)
 |_=>dsimp only;rw[iP h,e]
def Mz(h:MD ↑5 ds):oE S (.new ds) (S++T)=.ok (.new ds) S:=by
 unfold oE;rw[iP IB];have e:(S++T).take ↑5=S:=by simp
 dsimp only;rw[iP h,e]
theorem Na(b:↑5<=l)(a:(S++T)[l]? =some (.lst ds))(h:MD ↑5 ds):oE S (.val (.loc l)) (S++T)=.ok (.new ds) S:=by
 unfold oE;rw[iP IB];have e:(S++T).take ↑5=S:=by simp
 dsimp only;rw[iN0 #[0],a];dsimp only;rw[iP h,e]
def nV(b:rs.length=n)(a:F (yB rs S).1 (yB rs S).2=.ok (.val d) (S++T))(h:lo ↑5 d)(e: ∀l,d≠.loc l):yC n F rs S=.ok (.val d) S:=by unfold yC;rw[iP b,a];exact OR h e
def YW(b:rs.length=n)(a:F (yB rs S).1 (yB rs S).2=.ok (.new ds) (S++T))(h:MD ↑5 ds):yC n F rs S=.ok (.new ds) S:=by unfold yC;rw[iP b,a];exact Mz h
def Nb(b:rs.length=n)(a:F (yB rs S).1 (yB rs S).2=.ok (.val (.loc l)) (S++T))(d:↑5<=l)(e:(S++T)[l]? =some (.lst ds))(h:MD ↑5 ds):yC n F rs S=.ok (.new ds) S:=by unfold yC;rw[iP b,a];exact Na d e h
def eZ(b:rs.length=n)(a:F (yB rs S).1 (yB rs S).2=.ok (.val d) S)(h:lo ↑5 d)(e: ∀l,d≠.loc l):yC n F rs S=.ok (.val d) S:=nV b (by rw[aN];exact a) h e
theorem YX{L:R0}(I:Nat->Rho->Sto->Prop)
  (st: ∀i d,L[i]? =some d-> ∀b S,I i b S-> ∃a j,((gf d b S).bind λf k=>body f k)=.ok (.next a) j/\stay gs j/\I (i+1) a j):
  ∀ n i {b}{S},n+i=L.length->I i b S-> ∃a j,bA gf body gs (L.drop i) b S=.ok (.next a) j/\I L.length a j
 |0,i,b,S,hn,h=>by
  have e:i=L.length:=by lia
  subst e;rw[drop_length];exact⟨b,S,rfl,h⟩
 |n+1,i,b,S,hn,h=>by
  have hi:i<L.length:=by lia
  obtain⟨o,r,e,hs,p⟩:=st i L[i] (gE hi) b S h;obtain⟨m,q,t,s⟩:=YX I st n _ #[0] p;refine⟨m,q,?_,s⟩;rw[Ĩ hi];unfold bA
  cases z:gf L[i] b S with
  |ok f k=>
   rw[z]at e;have e:body f k=.ok _ r:=e;show(body f k).bind _=_;rw[e,cW];dsimp only;rw[iP hs];exact t
  |exc c fs k=>rw[z]at e;cases e
  |no=>rw[z]at e;cases e
theorem A7(I:Nat->Rho->Sto->Prop)
  (st: ∀i d,L[i]? =some d-> ∀e S,I i e S-> ∃a b,((gf d e S).bind λf j=>body f j)=.ok (.next a) b/\stay gs b/\I (i+1) a b)   (h:I 0 e S):
  ∃a b,bA gf body gs L e S=.ok (.next a) b/\I L.length a b:=YX I st L.length 0 #[0] h
section
theorem V9(b)(S):bC (.val (.bl b)) S=.ok b S:=rfl
theorem as_int(i)(S):EI (.val (.int i)) S=.ok (some i) S:=rfl
theorem A8(b)(S):gD (.val (.bl b)) S=.ok b S:=rfl
theorem add_int(i j)(S):yH (.val (.int i)) (.val (.int j)) S=.ok (.val (.int (i+j))) S:=rfl
theorem sub_int(i j)(S):Me (.val (.int i)) (.val (.int j)) S=.ok (.val (.int (i - j))) S:=rfl
def add_str(h:x.length+y.length<=sizeLine):yH (.val (.str x)) (.val (.str y)) S=.ok (.val (.str (x++y))) S:=iP h
def lF(a:Sw S p=some x)(b:Sw S q=some y)(h:x.length+y.length<=sizeLine):yH p q S=.ok (.new (x++y)) S:=by
 have e:Ey p q S=.ok (.new (x++y)) S:=by unfold Ey;rw[a,b];exact iP h
 unfold yH;split
 .cases a
 .cases a
 .cases a
 .exact e
theorem B1(i j)(S):zAG g (.val (.int i)) (.val (.int j)) S=.ok (.val (.bl (g i j))) S:=rfl
def Tt(i j):Rz (.int i) (.int j)=decide (i=j):=by
 show(i==j)=_;by_cases h:i=j
 .subst h;simp
 .rw[dF0 h];simpa using h
def Tu(x y):Rz (.str (yZ x)) (.str (yZ y))=decide (x=y):=by
 show(yZ x==yZ y)=_;by_cases h:x=y
 .subst h;simp
 .rw[dF0 h];have:=λz=>h (HL z);simpa using this
theorem MX(n)(i j):eqv S (n+1) (.int i) (.int j)=some (decide (i=j)):=by rw[<-Tt];rfl
theorem nW(n)(x y):eqv S (n+1) (.str x) (.str y)=some (decide (x=y)):=by rw[<-Tu];rfl
theorem Nc(n)(x)(y):eqv S (n+1) (.int x) (.str y)=some false:=rfl
theorem Nd(n)(x)(y):eqv S (n+1) (.str x) (.int y)=some false:=rfl
theorem B2(n)(x y):eqv S (n+1) (.bl x) (.bl y)=some (x==y):=rfl
theorem Tv(d f):pB (.val d) (.val f) S=match eqv S (zR+1) d f with |some k=>.ok (.val (.bl k)) S|none=>.no:=rfl
theorem Tw(d f):QL (.val d) (.val f) S=match eqv S (zR+1) d f with |some k=>.ok (.val (.bl !k)) S|none=>.no:=rfl
def VD(h:eqv S (zR+1) d f=some k):pB (.val d) (.val f) S=.ok (.val (.bl k)) S:=by rw[Tv,h]
def OS(h:eqv S (zR+1) d f=some k):QL (.val d) (.val f) S=.ok (.val (.bl !k)) S:=by rw[Tw,h]
def eq_int(i j)(S):pB (.val (.int i)) (.val (.int j)) S=.ok (.val (.bl (decide (i=j)))) S:=VD (MX _ i j)
def eq_str(x y)(S):pB (.val (.str x)) (.val (.str y)) S=.ok (.val (.bl (decide (x=y)))) S:=VD (nW _ x y)
def ne_int(i j)(S):QL (.val (.int i)) (.val (.int j)) S=.ok (.val (.bl (!decide (i=j)))) S:=OS (MX _ i j)
theorem lt_int(i j)(S):MW (.val (.int i)) (.val (.int j)) S=.ok (.val (.bl (decide (i<j)))) S:=rfl
theorem lt_str(i j)(S):MW (.val (.str i)) (.val (.str j)) S=.ok (.val (.bl (decide (i<j)))) S:=rfl
theorem xG(h:0<b)(e:b<1073741824)(a)(S):nU (.val (.int a)) (.val (.int b)) S=.ok (.val (.int (a / b))) S:=by
 refine iP ⟨h,?_⟩;have d:b.natAbs<2 ^ 30:=by omega
 have:=(log2_lt (by omega:b.natAbs≠0)).mpr d
 lia
def mod_lit(h:0<b)(a)(S):jU (.val (.int a)) (.val (.int b)) S=.ok (.val (.int (a % b))) S:=iP h
def MY(h: -(2 ^ 64)<b/\b<2 ^ 64)(a)(S):sH (.val (.int a)) (.val (.int b)) S=.ok (.val (.int (a * b))) S:=iP (Or.inr (Or.inl h))
def Nf(h: -(2 ^ 64)<a/\a<2 ^ 64)(b)(S):sH (.val (.int a)) (.val (.int b)) S=.ok (.val (.int (a * b))) S:=iP (Or.inl h)
def Tx(h:Mg a b)(S):JN (.val (.int a)) (.val (.int b)) S=.ok (.val (.int (a ^ b.toNat))) S:=iP h
theorem Tz(ρ)(i)(d)(S):MC ρ i (.val d) S=.ok (.next (ρ.set i (some d))) S:=rfl
theorem Ua(ρ)(i)(ds)(S):MC ρ i (.new ds) S=.ok (.next (ρ.set i (some (.loc ↑5)))) (S++[.lst ds]):=rfl
theorem Ub(S):yB [] S=([],S):=rfl
theorem Uc(d)(rs)(S):yB (.val d::rs) S=(d::(yB rs S).1,(yB rs S).2):=rfl
theorem zD(h:F ρ S=.ok (.next ρ') S'):zM F G ρ S=G ρ' S':=by unfold zM;rw[h];rfl
theorem yL(h:F ρ S=.ok (.ret r) S'):zM F G ρ S=.ok (.ret r) S':=by unfold zM;rw[h];rfl
def xZ(S):stay [] S:=nS
def yM(a:gf d ρ S=.ok ρ0 S0)(h:b ρ0 S0=.ok (.next ρ') S')(hs:stay gs S'):bA gf b gs (d::ds) ρ S=bA gf b gs ds ρ' S':=by
 conv=>lhs;unfold bA
 rw[a,cW,h,cW];dsimp only;rw[iP hs]
def Fk(a:gf d ρ S=.ok ρ0 S0)(h:b ρ0 S0=.ok (.ret r) S'):bA gf b gs (d::ds) ρ S=.ok (.ret r) S':=by
 conv=>lhs;unfold bA
 rw[a,cW,h,cW]
theorem dF(a:0<=i)(b:i<xs.length): ∃c,iU xs i=some c:=by refine⟨xs[i.toNat]'#[0],?_⟩;unfold iU QK;rw[iP a,iP b];exact gE _
def dG{P:α->Prop}(h: ∀e∈xs,P e)(z:iU xs i=some e):P e:=by
 unfold iU at z
 cases q:QK xs.length i with
 |none=>rw[q]at z;cases z
 |some j=>rw[q]at z;exact h e (ô z)
def ix_str(h:x.length<=sizeLine)(a:iU x i=some c):gL (.val (.str x)) (.val (.int i)) S=.ok (.val (.str [c])) S:=by show(if x.length<=sizeLine then match iU x i with |some c=>R.ok _ S|none=>.no else .no)=_;rw[iP h,a]
def ix_tup(a:iU ds i=some d):gL (.val (.tup ds)) (.val (.int i)) S=.ok (.val d) S:=by show(match iU ds i with |some d=>R.ok _ S|none=>.no)=_;rw[a]
def B3(a:iU ds i=some d):gL (.new ds) (.val (.int i)) S=.ok (.val d) S:=by show(match iU ds i with |some d=>R.ok _ S|none=>.no)=_;rw[a]
def gQ(b:S[l]? =some (.lst ds))(a:iU ds i=some d):gL (.val (.loc l)) (.val (.int i)) S=.ok (.val d) S:=by
 have e:cJ S (.val (.loc l))=some ds:=by unfold cJ;dsimp only;rw[b]
 show(match cJ S _ with |some ds=>getL ds _ S|none=>.no)=_;rw[e];show(match iU ds i with |some d=>R.ok _ S|none=>.no)=_;rw[a]
def vL(b:S[l]? =some (.lst ds)):kS [.val (.loc l)] S=.ok (.val (.int ds.length)) S:=by
 have e:cJ S (.val (.loc l))=some ds:=by unfold cJ;dsimp only;rw[b]
 have a:itemsOf S (.val (.loc l))=some ds:=by unfold itemsOf;exact e
 show(match itemsOf S _ with |some ds=>R.ok _ S|none=>.no)=_;rw[a]
def kC(a:S[l]? =some (.lst ds)):cJ S (.val (.loc l))=some ds:=by unfold cJ;dsimp only;rw[a]
def vM(a:S[l]? =some (.lst ds)):Sw S (.val (.loc l))=some ds:=by unfold Sw;dsimp only;rw[a]
def dH(a:S[l]? =some (.lst ds)):QS (.val (.loc l)) S=.ok ⟨ds,[(l,ds)]⟩ S:=by unfold QS;dsimp only;rw[a]
def bH(b:S[l]? =some (.lst ds)):stay [(l,ds)] S:=λp a=>by
 have:=by simpa using a
 subst this;exact b
def lG(h: -(2 ^ 62)<=j/\j<2 ^ 62):eP [.val (.int j)] S=.ok ⟨(List.range j.toNat).map λk=>.int (k:Nat),[]⟩ S:=iP h
def cut_str(h:x.length<=sizeLine)(lo hi):wU (.val (.str x)) lo hi S=.ok (.val (.str (cU x lo hi))) S:=iP h
def Fm(x:List α)(k)(e:0<=k):cU x none (some k)=x.take k.toNat:=by
 unfold cU;have b:HT.sIx x.length 0 none=0:=rfl;rw[b];have d:HT.sIx x.length x.length (some k)=min k.toNat x.length:=by unfold HT.sIx;simp only;split<;>omega
 rw[d,List.drop_zero,Nat.sub_zero];by_cases a:k.toNat<=x.length
 .rw[min_eq_left a]
 .rw[Nat.min_eq_right (by omega),List.take_length,ę (by omega)]
def fits(h:n<=1000000):n<=sizeLine:=by rw[ý];exact ç h ↑4
def hX(h:rs.length<=1000000):xU rs S=.ok (.new (yB rs S).1) (yB rs S).2:=iP (fits h)
def VE(h:rs.length<=1000000):pH rs S=.ok (.val (.tup (yB rs S).1)) (yB rs S).2:=iP (fits h)
def W1(S):xU [] S=.ok (.new []) S:=hX (by simp)
def lst1(a)(S):xU [.val a] S=.ok (.new [a]) S:=hX (by simp)
def lst2(a b)(S):xU [.val a,.val b] S=.ok (.new [a,b]) S:=hX (by simp)
def B4(a b c)(S):xU [.val a,.val b,.val c] S=.ok (.new [a,b,c]) S:=hX (by simp)
def lst6(a b c d e f)(S):xU [.val a,.val b,.val c,.val d,.val e,.val f] S=.ok (.new [a,b,c,d,e,f]) S:=hX (by simp)
def tup2(a b)(S):pH [.val a,.val b] S=.ok (.val (.tup [a,b])) S:=VE (by simp)
def W2(a b c)(S):pH [.val a,.val b,.val c] S=.ok (.val (.tup [a,b,c])) S:=VE (by simp)
theorem B5(i)(S):bF [.val (.int i),.val (.typ "str")] S=.ok (.val (.bl false)) S:=rfl
theorem B6(i)(S):bF [.val (.str i),.val (.typ "str")] S=.ok (.val (.bl true)) S:=rfl
theorem B7(i)(S):bF [.val (.int i),.val (.typ "tuple")] S=.ok (.val (.bl false)) S:=rfl
theorem B8(i)(S):bF [.val (.str i),.val (.typ "tuple")] S=.ok (.val (.bl false)) S:=rfl
theorem C1(i)(S):bF [.val (.tup i),.val (.typ "tuple")] S=.ok (.val (.bl true)) S:=rfl
theorem C3(i)(S):bF [.val (.bl i),.val (.typ "bool")] S=.ok (.val (.bl true)) S:=rfl
theorem uS(hs:stay gs S):
  ∀{ds},(∀d∈ds, ∃a,gf d ρb S=.ok a S/\cf a S=.ok true S/\ef a S=.ok (.val (F d)) S)->xV gf cf ef ρb gs ds S=.ok (ds.map F) S
 |[],_=>rfl
 |d::ds,st=>by obtain⟨a,b,f,i⟩:=st d mF0;have e:=uS hs (ds:=ds) λd h=>st d (mO _ h);unfold xV;rw[b,xO,cW,f,xO,cW,iP rfl,i,xO,cW];unfold dR;rw[cW,iP hs,e];rfl
def Nm(x:Db):Prop:=1<=x.length/\x.length<=8/\ ∀c∈x,97<=c/\c<=122
def Vl:MV->Prop
 |.int i=> -(10 ^ 30)<i/\i<10 ^ 30
 |.str x=>Nm x
 |_=>False
def Vl.cases(h:Vl d):(∃i,d=.int i/\ -(10 ^ 30)<i/\i<10 ^ 30)\/ ∃x,d=.str x/\Nm x:=by
 cases d with
 |int i=>exact .inl ⟨i,rfl,h⟩
 |str x=>exact .inr ⟨x,rfl,h⟩
 |_=>exact h.elim
def Vl.lo(h:Vl d)(n):lo n d:=by
 rcases h.cases with⟨i,rfl,_⟩|⟨x,rfl,_⟩
 .exact sI n i
 .exact dS n x
end
def Ite(K:P0)(k:Bool)(l:Addr):It:=
 ⟨λi H=> ∃xs x,QW k K H l xs/\xs[i]? =some x,
   λi H v H'=> ∃p x,H p=none/\v=.ref p/\H'=jL H p (.tup [.int (i:Nat),x])/\(∀xs,QW k K H l xs->xs[i]? =some x),
   λi H=> ∃xs,QW k K H l xs/\xs.length<=i⟩
section
variable{s:Ĵ}
def Ja(f:IsSeq k s.heap l its)
  (h: ∀h',EnSt k (↑0+1) ↑0 l 0 h'->(∀c o,s.heap.get? c=some o->h'.get? c=some o)->Q (.ref (↑0+1)) {s with heap:=h'}):
  wpAny (model prog w) A (call (.type "enumerate") [.ref l]) Q E s:=by
 refine callType_new F.called_enumerate ↑4 (F.typeCall_enumerate_1 _) (F.newCall_enumerate_1 _) (λa=>F.args_object_init_2 a _) F.entry_enumerate_new (Ck k l its) ⟨f,?_⟩;have e:(s.heap.push (CD k l)).objs.size=↑0+1:=ù ..;have d:=by have:=ä (s.heap.push (CD k l)) (o:={cls:=.type "enumerate",data:=.fields #[.none,.bool false,.ref ↑0,rawInt 0,.none,.none]}) rfl;rw[e]at this;exact this
 refine⟨⟨_,d,rfl⟩,h _ ⟨⟨_,d⟩,IsSub.mk' (hP0 _ (ä _ rfl))⟩ λb o x=>hP0 _ (hP0 _ x)⟩
end
theorem Jb{K:P0}(hne:e≠it):
  Turn P w K (.Tuple elts kt pt) (Ite K k l) [e,it] e (λi h=>EnSt k e it l i h) where
 mem:=by simp
 obj:=λi h st b hb=>by
  obtain⟨⟨old,he⟩,hs⟩:=st;have hb':b=e\/b=it:=by simpa using hb
  rcases hb' with rfl|rfl
  .exact⟨_,he,λv q=>by cases q⟩
  .exact hs.there
 keep:=λi h h' st kk=>by obtain⟨⟨old,he⟩,hs⟩:=st;exact⟨⟨old,kk e (by simp) _ he⟩,hs.move λo q=>kk it (by simp) o q⟩
 item:=by
  intro X hP hw hK hc i pins s σ H E I hf st hg;subst hP hw hK;obtain⟨xs,x,q1,hx⟩:=hg;obtain⟨its,r1,p1,_⟩:=I.seqK q1;obtain⟨u,hu,ru⟩:=r1.get hx;obtain⟨⟨old,he⟩,hs⟩:=st;have hT:s.TypeIs (.ref e) "enumerate":=⟨_,he,rfl⟩
  unfold pyNext
  refine wB (wpAny_attempt (ā hT F.slot_enumerate_next (ą F.slot_enumerate_next hT F.entry_enumerate_next
   (Tr he hs p1 (by simpa using hu) hne λh' a1 a2 a3 a4=>wP ⟨_,rfl,?_⟩) (F.args_enumerate_next_1 _))))
  refine wpAny_letOwnedTupleGo_enum a1 λh2 z2 sb2=>?_;have hpn:H ↑0=none:=I.hok.fresh (à _)
  have I0:Inv X pins σ _ {s with heap:=s.heap.push {cls:=.type "tuple",data:=.seq #[.int i s.toks,u]},toks:=s.toks+1}:=
   I.laid (o:=.tup [.int (i:Nat),x]) (λb o e=>hP0 _ e) (à _) ⟨by show 2<=sizeLine;decide,_,.cons ⟨_,rfl⟩ (.cons ru .nil),⟨_,ä _ rfl,rfl,_,rfl⟩⟩
  have lt: ∀b∈[e,it],b<s.heap.objs.size:=λb hb=>by
   have hb':b=e\/b=it:=by simpa using hb
   rcases hb' with rfl|rfl
   .exact ã he
   .obtain⟨o,eo,_⟩:=hs.there;exact ã eo
  have fr: ∀b∈[e,it],jL H ↑0 (.tup [.int (i:Nat),x]) b=none:=λb hb=>by rw[zP (é (lt b hb))];exact(hf b hb).1
  have mv: ∀b o,b∉[e,it]->(s.heap.push {cls:=.type "tuple",data:=.seq #[.int i s.toks,u]}).get? b=some o->h2.get? b=some o:=λb o hb eo=>by
   simp only[mC,nM,or_false,not_or]at hb;refine sb2.extBut _ _ hb.1 ?_;by_cases hbs:b=↑0
   .subst hbs;rw[ä _ rfl]at eo;cases eo;exact a3
   .rw[Heap.get?_push_ne _ _ _ hbs]at eo;exact a4 b o hb.1 hb.2 eo
  have I2:=I0.turnedL (t':=s.toks+1) mv λb hb=>let ⟨_,c2,c3,c4,c5,c6⟩:=hf b hb;⟨fr b hb,c2,c3,c4,c5,c6⟩;refine⟨.ref ↑0,_,I2,rfl,⟨_,x,hpn,rfl,rfl,λzs hz=>?_⟩,⟨⟨u,?_⟩,?_⟩,fr⟩
  .rw[I.seqK_inj hz q1];exact hx
  .simpa using z2
  .exact a2.move λo eo=>sb2.extBut _ _ (Ne.symm hne) eo
 done:=by
  intro X hP hw hK hc i pins s σ H E I hf st hg;subst hP hw hK;obtain⟨xs,q1,hx⟩:=hg;obtain⟨its,r1,p1,_⟩:=I.seqK q1;obtain⟨⟨old,he⟩,hs⟩:=st;have hT:s.TypeIs (.ref e) "enumerate":=⟨_,he,rfl⟩
  have e1:=r1.length;unfold pyNext;refine wB (wpAny_attempt (ā hT F.slot_enumerate_next (ą F.slot_enumerate_next hT F.entry_enumerate_next ?_ (F.args_enumerate_next_1 _))));show wpAny _ _ (field (.ref e) 2 >>= _) _ _ _;refine wB (ð he rfl rfl ?_);refine wB (VC (I.ok.hd hc) hs p1 (by simp;lia) λh' x hk hx'=>?_);obtain⟨o,ho,hcl⟩:=hx';refine wB (wpAny_isInstance ⟨o,ho,hcl⟩ isSubtype_stop (wP ⟨rfl,?_⟩));refine I.turnedL (λb o hb eo=>?_) hf;simp only[mC,nM,or_false,not_or]at hb;exact hk b o hb.2 eo
 self:=λ_ _ _ _ _ st h=>let ⟨⟨_,he⟩,_⟩:=st;wpAny_pyIter_enum he h
def W3(K:P0)(d:TA):TI:=λσ H R=>d σ H λb a=> ∃k l,b=[.ref l]/\(∃xs,QW k K a l xs)/\R (Ite K k l) a
section
variable{a:Expr}{p:Pos}
def Ud(t:Gl X "enumerate")(hm:X.mg "enumerate"=none)(w:PA X [a] ta)(hs:starEach [a] X.env=[(false,eval a X.env)]:=by rfl):
  PI X (.Tuple elts kt pt) (.Call (.Name "enumerate" p) [a] [] pos) (W3 X.K ta):=by
 intro pins s σ H R I h;refine Call_ (JA I t hm Tq (ğ (kL (w pos pins s σ H _ I h) λz s1 ⟨B,f,I1,y,n⟩=>?_) (by rw[hs];rfl) (by rfl)));obtain⟨k,l,rfl,⟨xs,u⟩,q⟩:=n
 cases y with
 |cons r rr=>
  cases rr;cases r;obtain⟨j,A,p1,_⟩:=I1.seqK u;refine Ja p1 λh' st i=>let ⟨⟨_,m⟩,_⟩:=id st;wpAny_pyIter_enum m ?_;have o:Inv X pins σ f {s1 with heap:=h'}:=I1.kept i;refine⟨_,_,_,_,f,rfl,o,Jb (û (Ĝ _)),st,λb v=>?_,q⟩
  have d:s1.heap.objs.size<=b:=by
   have e:=by simpa using v
   rcases e with h|h<;>rw[h]<;>(first |exact à _|exact Nat.le_add_right _ _)
  exact I1.fpOk d (I1.hok.fresh d)
noncomputable def Ng(xs:R0):List MV:=xs.zipIdx.map λp=>.tup [.int (p.2:Nat),p.1]
def itE(rs:List Er)(S:Sto):R Wk:=match rs with
 |[p]=>match srcOf S p with
  |some a=>.ok ⟨Ng a.ds,a.gs⟩ S
  |none=>.no
 |_=>.no
theorem Ue(T:Gl X "enumerate")(hm:X.mg "enumerate"=none)(v:IW X W [a] af)(hs:starEach [a] X.env=[(false,eval a X.env)]:=by rfl):
  PIm X W (.Tuple elts kt pt) (.Call (.Name "enumerate" p) [a] [] pos) (λr S=>(af r S).bind itE):=by
 obtain⟨t,v,k⟩:=v;refine⟨_,Ud T hm v hs,λα r S σ H Rc wd P q=>k α r S σ H _ wd P (q.bind λvs rs J y H1 e K F Q b=>?_)⟩
 replace b:=b.shift K
 unfold itE at b;split at b
 .rename_i r1;split at b
  .rename_i s1 G;obtain⟨u,rfl,du⟩:=FK Q;obtain⟨O,P1,rfl,p1,f⟩:=OQ F G du;have I:=f.get _ _ _ p1;have B:(Ng s1.ds).length=s1.ds.length:=by unfold Ng;rw[lM0,List.length_zipIdx]
   refine⟨s1.k,O,rfl,⟨_,I.choose_spec.1⟩,b.here F ⟨λα S H=>P1 α S H,?_,p1,?_,?_⟩⟩
   .intro i n Z N h D;obtain⟨j,s,E⟩:=f.get _ _ _ h;have hl:=E.length;refine⟨λhi=>?_,λhi=>?_⟩
    .have hi:=hi;have Y:i<j.length:=by lia
     refine⟨⟨j,_,s,gE Y⟩,?_⟩;rintro x H' ⟨pp,A,z,rfl,rfl,L⟩;obtain⟨d,M,U⟩:=E.get (L j s);have m:=D.newx (o:=.tup [.int (i:Nat),A]) z;have C:=D.new (o:=.tup [.int (i:Nat),A]) z;refine⟨m,C,f.stays _ _ _ _ _ _ h m C (f.st _ _ _ h),.tup [.int (i:Nat),d],?_,?_⟩
     .unfold Ng;rw[ü,List.getElem?_zipIdx,M];simp
     .exact rH (.of zV) (yW (xD _) (yW (U.ext m) xB))
    .have hi:=hi;exact⟨j,s,by lia⟩
   .intro y J H1 n Z N h x w hs;exact f.stays _ _ _ _ _ _ h x w hs
   .exact f.st _ _ _ p1
  .exact b.elim
 .exact b.elim
end
instance:DecidableEq MV:=λ_ _=>Classical.propDecidable _
def look(a:X0)(k:MV):Option MV:=(a.find? λp=>decide (p.1=k)).map (·.2)
def putK(a:X0)(k d:MV):List (MV×MV):=if(look a k).isSome=true then a.map (λp=>if p.1=k then(p.1,d)else p)else a++[(k,d)]
section
variable{X:Cx}
def Je(p)(kvs)(k):look (p::kvs) k=if p.1=k then some p.2 else look kvs k:=by
 unfold look;rw[List.find?_cons];by_cases h:p.1=k
 .rw[dT0 h,iP h];rfl
 .rw[dF0 h,iN0 h]
theorem DenN.append: ∀{f b}{xs i},DenN X.K α H f xs->DenN X.K α H b i->DenN X.K α H (f++b) (xs++i)
 |_,_,_,_,.nil,h=>h
 |_,_,_,_,.cons hk e a d r l,h=>.cons hk e a d r (DenN.append l h)
end
section
variable{X:Cx}{o:Expr}
def C4(I:↑1):sysModules<s.heap.objs.size:=lt_trans ↑4 ((I.mod.glob.keeps I.bk).lt)
theorem Wd.put(w:Wd gg α S H)(f:H p=none)(q:ObD gg (α++[p]) (jL H p ho) p m):Ext α H (α++[p]) (jL H p ho)/\Wd gg (α++[p]) (S++[m]) (jL H p ho):=by
 have x:=w.newx (o:=ho) f;have n:=w.new (o:=ho) f;have np:=w.fresh f;refine⟨⟨⟨⟨[p],rfl⟩,x.tup,x.frz⟩,λb r=>?_,x.keep,x.has⟩,⟨?_,?_,λl c k d e=>?_⟩⟩
 .rcases ê.mp r with h|h
  .exact .inl h
  .rw[mS0.mp h];exact .inr f
 .rw[lA,lA,w.len];rfl
 .exact List.nodup_append.mpr ⟨w.nd,by simp,λa s c t=>by rw[mS0.mp t];rintro rfl;exact np s⟩
 .by_cases j:l<α.length
  .rw[á j]at d;rw[á (by rw[<-w.len];exact j)]at e;exact(n.obj l c k d e).move (Ex0.grow α [p] _) rfl
  .have i:l=α.length:=by
    have:=(gS.mp d).1;rw[lA,lS]at this
    lia
   subst i;rw[â (à _),sub_self]at d;rw[â (by rw[w.len];exact à _),w.len,sub_self]at e;cases d;cases e;exact q
noncomputable def Nh(S:Sto):R Er:=.ok (.val (.loc ↑5)) (S++[.dic []])
def Ni:yF X W (.Dict [] [] pos) (λ_ S=>Nh S):=by
 refine⟨λσ H Q=> ∀p,H p=none->Q (.ref p) (jL H p (.dK [])),λpins s σ H Q I h=>?_,λα e S σ H Q wd d q p a=>?_⟩
 .exact wpAny_Dict_empty ⟨.ref ↑0,_,I.laid (o:=.dK []) (λ_ _ q=>hP0 _ q) (à _)
   ⟨zero_le _,beq_eq_false_iff_ne.mpr (Ne.symm (é (C4 I))),[],.nil,Heap.DictOf.new s.heap⟩,rfl,h _ (I.hok.fresh (à _))⟩
 .obtain⟨x,b⟩:=wd.put (m:=.dic []) a (.inl ⟨[],zV,.nil⟩);exact q _ _ _ x b (DenE.val (HP (by rw[<-wd.len,â (à _),sub_self];rfl)))
theorem DenN.length: ∀{a xs},DenN X.K α H a xs->xs.length=a.length
 |_,_,.nil=>rfl
 |_,_,.cons _ _ _ _ _ l=>by rw[lC0,lC0,DenN.length l]
end
def W4{K:P0}:FnOk P w K mg base LD k f fd ps (XS g m λ_ _=>.no):=
 ⟨λa H Q E ⟨_,_,_,_,_,_,q⟩=>q.elim,λ_ _ _ _ _ _ _ _ _ _ _ _ _ ⟨_,_,_,_,_,_,q⟩=>q.elim⟩
def FsD(g:Gm)(α:B9)(H:Hp)(d:Option Addr)(fs:List (Str×MV)):Prop:=fs=[]\/ ∃a b e,d=some a/\H a=some (.frz e (.xd b))/\DenF g.K α H fs b
abbrev WE(g:Gm)(E:XK):XW:=λc fs _ α H=> ∀C d,g.mg c=some (.ref C)->FsD g α H d fs->E (.ref C) d H
noncomputable def VF:MV->Bool
 |.non=>true
 |.bl _=>true
 |.int _=>true
 |.str _=>true
 |_=>false
def Jf{K:P0}: ∀{d}{v},VF d=true->Den K α H d v->Den K α' H d v
 |.non,_,_,q=>by cases iW q;exact rG
 |.bl _,_,_,q=>by cases rK q;exact wN _
 |.int _,_,_,q=>by cases jS q;exact xD _
 |.str _,_,_,q=>by cases kM q;exact gT _
theorem OT{K:P0}: ∀{fs gs},fs.all (λp=>VF p.2)=true->DenF K α H fs gs->DenF K α' H fs gs
 |_,_,_,.nil=>.nil
 |_,_,h,.cons a l=>by rw[Ě,aE]at h;exact .cons (Jf h.1 a) (OT h.2 l)
def Post.wmono[Dn β τ](f: ∀c fs S α' H',W c fs S α' H'->W' c fs S α' H'): ∀{m:R β}{Q},Post g W α H m Q->Post g W' α H m Q
 |.ok b S,Q,q=>q
 |.exc c fs S,_,q=>λα' H' x w=>f _ _ _ _ _ (q α' H' x w)
 |.no,_,q=>q
def CG(K:P0)(C:Addr)(f:A0)(a:Option ĵ):Prop:=
 ∃nm q N bs d o sub e b h m j k p i,K.lookup C=some (excClassObj nm q C N bs f d o sub e b h m j k p i "ValueError.__new__")/\PySem.W.nsOkIn K N=true/\PySem.W.nsIn K N "__init__"=some a/\(∀n∈qn,PySem.W.nsIn K N n=some none)/\d=true
def XEach(K:P0)(mg:K0)(M:Addr):List (Str×Addr)->Prop
 |[]=>True
 |(c,C)::r=>(mg c=some (.ref C)/\ ∃i,CG K C (.ref M::iV) i)/\XEach K mg M r
structure XTab(K:P0)(mg:K0)(M:Addr)(cs:List (Str×Addr)):Prop where
 m:mg "MendError"=some (.ref M)
 mc:CG K M iV none
 each:XEach K mg M cs
 nd:(M::cs.map (·.2)).Nodup
theorem XEach.at{K:P0}: ∀{a},XEach K mg M a-> ∀{c C},(c,C)∈a->mg c=some (.ref C)/\ ∃i,CG K C (.ref M::iV) i
 |_::r,h,c',C',z=>by
  rcases mC.mp z with z|z
  .cases z;exact h.1
  .exact XEach.at h.2 z
def IC{K:P0}(X:K.In h)(c:CG K C (.ref M::iV) i)(m:CG K M iV none):uM h C M:=by
 obtain⟨_,_,N,_,_,_,_,_,_,_,_,_,_,_,_,l,o,_,q⟩:=c;obtain⟨_,_,f,_,_,_,_,_,_,_,_,_,_,_,_,d,b,_,e⟩:=m
 exact⟨_,_,_,_,_,_,_,_,_,_,_,_,_,_,_,_,_,X _ _ l,.of_isNs (PySem.W.isNs_of_in X o),λn a=>PySem.W.nsMap_none_of_in X o (q.1 n a),
  _,_,_,_,_,_,_,_,_,_,_,_,_,_,_,_,_,X _ _ d,.of_isNs (PySem.W.isNs_of_in X b),λn a=>PySem.W.nsMap_none_of_in X b (e.1 n a)⟩
section
variable{pos np cpos:Pos}
def pC(L:XOk X E)(hg:Gl X x)(hm:X.mg x=some (.ref C))(B:CG X.K C (.ref M::iV) none)(G:CG X.K M iV none)(u:IW X (WE X.g E) (e::es) af)(r:X.ex=[]:=by rfl)(b:X.calm=true:=by rfl)
  (hd:(x==("__debug__"))=false:=by decide) (he:q8 X e es:=by rfl) (hpl:(backTo cpos (starEach es X.env)).any (·.1)=false:=by rfl):
  Eo X (WE X.g E) (.Raise (some (.Call (.Name x np) (e::es) [] cpos)) none pos) (λm S=>(af m S).bind λy w=>if y.length<=10 then .exc x [] w else .no):=by
 obtain⟨Q,u,fa⟩:=u;refine⟨λD σ H=>Q σ H λo f=>o.length<=10/\E (.ref C) none f,λpins s σ H D I h=>?_,λα m S σ H D wd Y q=>fa α m S σ H _ wd Y (q.expr λo y w n f e1 U w1 P j=>?_)⟩
 .obtain⟨nm,q,N,bs,k,sn,sub,ab,col,dd,k0,k1,k2,k3,k5,lC,z,iN,_⟩:=B;obtain⟨_,_,N',_,_,_,_,_,_,_,_,_,_,_,_,O,A,J,_⟩:=G;have d:=I.mod.kin;have hN:=Heap.Ns.of_isNs (PySem.W.isNs_of_in d z);have i:=PySem.W.nsMap_none_of_in d z iN;have T:OwnTail X.base iV _:=.own (d _ _ O) (.of_isNs (PySem.W.isNs_of_in d A)) (PySem.W.nsMap_none_of_in d A J) .base
  refine wpAny_Raise_call_subT (C:=C) (nm:=nm) (q:=q) (N:=N) (bs:=bs) (hdct:=k) (sn:=sn) (sub:=sub) (ab:=ab) (col:=col) (dd:=dd) (k0:=k0) (k1:=k1) (k2:=k2) (k3:=k3) (k5:=k5)
   F.excBase_ValueError (T.hasType F.excBase_ValueError.hasBase) (I.ok.hd b) (by rw[he];exact hpl) i (rC I hg hm ⟨rfl,?_⟩ hd)
  have v:=u cpos pins s σ H _ I h;rw[he]at v ⊢;refine Calls.evalArgs_plain (kL v λus s1 ⟨o,f,I1,r1,p,Z⟩=>⟨rfl,by rw[<-r1.length];exact ç p ↑4,I1.bk _ _ (d _ _ lC),hN.keeps I1.bk,T.keeps I1.bk,λh' a mk=>?_⟩);obtain⟨t,ht,_,_⟩:=mk.there;exact L.born pins σ f _ a C none (I1.kept mk.keeps) ⟨_,_,ht,rfl,rfl,rfl,rfl,rfl⟩ (I1.older r mk.new) (I1.hok.none_of mk.new) Z
 .split at j
  .rename_i p;exact⟨by rw[ArgsE.length P];exact p,j n f U w1 C none hm (.inl rfl)⟩
  .exact j.elim
end
section
variable{pos p p2:Pos}
noncomputable def BL(ns:C0)(a:Str):Er->Sto->R Er
 |.val (.loc l),S=>match S[l]? with
  |some (.ins c _)=>if c∈ns then .ok (.val (.bl (decide (c=a)))) S else .no
  |_=>.no
 |_,_=>.no
noncomputable def Nj(ns:C0):Er->Sto->R Er
 |.val (.loc l),S=>match S[l]? with
  |some (.ins c _)=>if c∈ns then .ok (.val (.bl true)) S else .no
  |_=>.no
 |_,_=>.no
def IsX(X:Cx)(M:Addr)(H:Hp)(x:V)(C:Addr):Prop:= ∃b a,x=.ref b/\H b=some (.frz a (.ext λh=>h.get? b=some a))/\a.cls=.ref C/\(∃i,CG X.K C (.ref M::iV) i)/\CG X.K M iV none
def Nk:CallR X (.builtin "isinstance") (λxs H Q=> ∃x C D,xs=[x,.ref D]/\IsX X M H x C/\(C=D\/(C≠D/\M≠D/\ ∃n i,CG X.K D n i))/\Q (.bl (decide (C=D))) H):=by
 intro pins s σ H xs o Q I r h;obtain⟨_,C,D,rfl,⟨F,G,rfl,B,p,⟨i,E⟩,w⟩,A,q⟩:=h
 obtain⟨f,o,m,⟨d,_,j,v,rfl⟩,rfl⟩: ∃f b,RelV _ f/\(∃d a,RelV _ d/\Vals [] a/\b=d::a)/\o=f::b:=by
  cases r with
  |cons m r=>cases r with
   |cons j r=>exact⟨_,_,m,⟨_,_,j,r,rfl⟩,rfl⟩
 cases m;cases j;cases v;have t:=(I.hok F _ B).1;have O:=IC I.kIn E w;rcases A with rfl|⟨n1,n2,n,i2,cD⟩
 .refine PyProof.Rows.call_isinstance_of (Io t p ⟨.bl true,H,I,rfl,?_⟩);simpa using q
 .obtain⟨_,_,_,_,_,_,_,_,_,_,_,_,_,_,_,u,_⟩:=cD;obtain⟨J,y,k,e⟩:=Ls O;refine PyProof.Rows.call_isinstance_of (Sh O t p (I.kIn _ _ u) y k e ?_ ⟨.bl false,H,I.tok _,rfl,?_⟩)
  .simp only[Ĉ,List.contains_nil,Bool.or_eq_false_iff,beq_eq_false_iff_ne];exact⟨λz=>n1 (by cases z;rfl),λz=>n2 (by cases z;rfl),by simp,by simp,by simp,by simp,trivial⟩
  .simpa [n1]using q
def Nl:CallR X (.builtin "isinstance") (λxs H Q=> ∃x C,xs=[x,.ty "ValueError"]/\IsX X M H x C/\Q (.bl true) H):=by
 intro pins s σ H xs k Q I r h;obtain⟨_,C,rfl,⟨t,w,rfl,v,o,⟨i,p⟩,n⟩,q⟩:=h
 obtain⟨d,k,j,⟨e,_,f,m,rfl⟩,rfl⟩: ∃d b,RelV _ d/\(∃e a,RelV _ e/\Vals [] a/\b=e::a)/\k=d::b:=by
  cases r with
  |cons j r=>cases r with
   |cons f r=>exact⟨_,_,j,⟨_,_,f,r,rfl⟩,rfl⟩
 cases j;cases f;cases m;have u:=(I.hok t _ v).1;have O:=IC I.kIn p n;exact PyProof.Rows.call_isinstance_of (Si O u o (by kernel_rfl) (by simp[Ĉ]) ⟨.bl true,H,I,rfl,q⟩)
def Fn(T:XTab X.K X.mg M cs)(wd:Wd X.g α S H)(d:DenX X.K α H r x)(e:r=.val (.loc l))(i:S[l]? =some (.ins c fs))(k:c∈cs.map (·.1)):
  ∃C,(c,C)∈cs/\IsX X M H x C:=by
 subst e;obtain⟨f,rfl,h⟩:=pF d;obtain⟨o,v,C,w,j,u,n,t,b,_⟩: ∃o,S[l]? =some o/\ObD X.g α H f _:=⟨_,i,wd.obj l f _ h i⟩
 obtain⟨⟨m,q⟩,a,rfl⟩:=mM0.mp k;obtain⟨s,p⟩:=T.each.at a;have:C=q:=by have z:X.mg m=some _:=j;rw[s]at z;cases z;rfl
 subst this;exact⟨C,a,f,n,rfl,t,b,p,T.mc⟩
theorem XTab.inj{K:P0}(T:XTab K mg M cs)(h:(c,C)∈cs)(h':(c',C')∈cs)(e:(cs.map (·.1)).Nodup):(C=C'↔c=c'):=by
 constructor
 .rintro rfl;have d:=(nodup_cons.mp T.nd).2
  have: ∀(l:List _),(l.map (·.2)).Nodup->(c,C)∈l->(c',C)∈l->c=c':=by
   intro l
   induction l with
   |nil=>intro _ z;simp at z
   |cons y r ih=>
    intro d a b;rw[è,nodup_cons]at d;rcases mC.mp a with a1|a1<;>rcases mC.mp b with b1|b1
    .rw[<-b1]at a1;cases a1;rfl
    .exact absurd (by rw[<-a1];exact mM0.mpr ⟨(c',C),b1,rfl⟩) d.1
    .exact absurd (by rw[<-b1];exact mM0.mpr ⟨(c,C),a1,rfl⟩) d.1
    .exact ih d.2 a1 b1
  exact this cs d h h'
 .rintro rfl;have a:=(T.each.at h).1;rw[(T.each.at h').1]at a;cases a;rfl
def wV(T:XTab X.K X.mg M cs)(I:(cs.map (·.1)).Nodup)(d:(c2,D)∈cs)(w:X.mg "isinstance"=none)(F:Gl X "isinstance")(h:Gl X c2)(j:yF X W a f)(e:cs.map (·.1)=ns:=by rfl)(s:(c2==("__debug__"))=false:=by decide)
  (he:starEach [a,.Name c2 p2] X.env=(false,eval a X.env)::starEach [.Name c2 p2] X.env:=by rfl) (hp2:(backTo pos (starEach [.Name c2 p2] X.env)).any (·.1)=false:=by rfl):
  yF X W (.Call (.Name "isinstance" p) [a,.Name c2 p2] [] pos) (λi S=>(f i S).bind (BL ns c2)):=by
 subst e;obtain⟨Y,j,J⟩:=j;have G:=(T.each.at d).1;refine⟨_,HI (Nk (M:=M)) F w PyProof.Rows.boot_isinstance (oP j (oP (UD (v:=.ref D) h G rfl s) JB) he) ↑4 ↑4 he hp2,λα i S σ H Q wd B q=>J α i S σ H _ wd B (q.bind λu r P N U O o k E b=>?_)⟩
 replace b:=b.shift o
 unfold BL at b;split at b
 .rename_i l;split at b
  .rename_i c fs A;split at b
   .rename_i m;obtain⟨C,t,n⟩:=Fn T k E.1 rfl A m;refine⟨u,C,D,rfl,n,?_,?_⟩
    .by_cases z:C=D
     .exact .inl z
     .exact .inr ⟨z,λy=>(nodup_cons.mp T.nd).1 (by rw[y];exact mM0.mpr ⟨_,d,rfl⟩),_,(T.each.at d).2⟩
    .have L:decide _=decide _:=Ĕ.mpr (T.inj t d I);rw[L];exact Post.val b k (wN _)
   .exact b.elim
  .exact b.elim
 .exact b.elim
def C5(T:XTab X.K X.mg M cs)(z:X.mg "isinstance"=none)(h:X.mg "ValueError"=none)(s:Gl X "isinstance")(e:Gl X "ValueError")(j:yF X W a f)(d:cs.map (·.1)=ns:=by rfl)
  (he:starEach [a,.Name "ValueError" p2] X.env=(false,eval a X.env)::starEach [.Name "ValueError" p2] X.env:=by rfl) (hp2:(backTo pos (starEach [.Name "ValueError" p2] X.env)).any (·.1)=false:=by rfl):
  yF X W (.Call (.Name "isinstance" p) [a,.Name "ValueError" p2] [] pos) (λi S=>(f i S).bind (Nj ns)):=by
 subst d;obtain⟨E,j,n⟩:=j;refine⟨_,HI (Nl (M:=M)) s z PyProof.Rows.boot_isinstance (oP j (oP (Eb (v:=.ty "ValueError") e h (by decide+kernel) rfl ↑4 ↑4) JB) he) ↑4 ↑4 he hp2,λα i S σ H Q wd m q=>n α i S σ H _ wd m (q.bind λu r F A G D y k o b=>?_)⟩
 replace b:=b.shift y
 unfold Nj at b;split at b
 .rename_i l;split at b
  .rename_i c fs B;split at b
   .rename_i t;obtain⟨C,I,w⟩:=Fn T k o.1 rfl B t;exact⟨u,C,rfl,w,Post.val b k (wN _)⟩
   .exact b.elim
  .exact b.elim
 .exact b.elim
end
def Kk(g:Gm)(n:Nat)(F:List MV->Sto->R Er):Sp:=λb H Q E=> ∃α S a,Wd g α S H/\DenL g.K α H a b/\a.length=n/\Post g (WE g E) α H (F a S) Q
def jV(n:Nat)(F:List MV->Sto->R Er)(rs:List Er)(S:Sto):R Er:=if rs.length=n then(match F (yB rs S).1 (yB rs S).2 with
 |.ok r S2=>oE S r S2
 |.exc c fs S2=>if fs.all (λp=>VF p.2)=true then(oE S (.val .non) S2).bind λ_ a=>.exc c fs a else .no
 |.no=>.no)else .no
section
variable{X:Cx}{pos:Pos}
def GH(f:Ext α H α1 H1)(e:Wd X.g α1 S1 H1)(M:ArgsE X.K H α1 H1 rs vs)(q:Post X.g (WE X.g E) α H (jV n F rs S1) Q):
  Kk X.g n F vs H1 Q E:=by
 unfold jV at q;split at q
 .rename_i J;obtain⟨m,t,p,S,A⟩:=uP e f M;refine⟨m,_,_,S,A,by rw[EH];exact J,?_⟩
  cases z:F (yB rs S1).1 (yB rs S1).2 with
  |ok r S3=>
   rw[z]at q;intro v a k j o u;obtain⟨N,B,α',b,h,i,s⟩:=UW f e p.pre t j o u;have q:Post X.g _ α H (oE S1 r S3) Q:=q;rw[b]at q;exact q v α' k h i s
  |exc c fs S3=>
   rw[z]at q;dsimp only at q;split at q
   .rename_i w;intro a k j o C d D y;obtain⟨N,B,α',b,h,i,s⟩:=UW f e p.pre t j o (DenE.val rG);rw[b]at q;exact q α' k h i C d D (y.imp id λ⟨L,G,O,P,T,I⟩=>⟨L,G,O,P,T,OT w I⟩)
   .exact q.elim
  |no=>rw[z]at q;exact q.elim
 .exact q.elim
def Nn{p:Pos}(s:XOk X E)(G:FnOk X.prog X.w X.K X.mg X.base (YJ X.prog X.w) k fa fd ps (Kk X.g n F))(m:Room k X.A)(j:Gl X x)(hm:X.mg x=some (.ref fa))
  (hk:PySem.W.keepIn X.K (.ref fa)=true) (hb:Binds X.K fd ps []) (b:IW X (WE X.g E) (e::es) af) (hdb:(x==("__debug__"))=false:=by decide)
  (he:q8 X e es:=by rfl) (hpl:q9 X pos es:=by rfl):
  yF X (WE X.g E) (.Call (.Name x p) (e::es) [] pos) (λa S=>(af a S).bind λd f=>jV n F d f):=by
 obtain⟨t,b,o⟩:=b;refine⟨_,UH G m j hm hk hb .nil s.pass b hdb he hpl,λα a S σ H Q wd h q=>o α a S σ H _ wd h (q.bind λC d f y B z r v i u=>?_)⟩;rw[aN];exact GH r v i u
end
section
variable{K:P0}
def O5{st:Stmt}(Fb)(F:Fun K x qual st f fd)(C:FnScope N ps (zG st))
  (hbody: ∀ b  A  a  s  H  E ,Room k (A.deeper (envOfC qual (zG st) ↑0 f b))->
   JH (LZ (YJ P w) P w K mg base N qual (zG st) f b A a s H E) (WE ⟨K,mg,P,w⟩ E) (gR st) Fb):
  FnOk P w K mg base (YJ P w) (k+1) f fd ps (Kk ⟨K,mg,P,w⟩ ps.length λj S=>xF (Fb (zU N j) S)):=by
 obtain⟨O,T,kV,D,L,M,b,I,o,rfl,n,i⟩:=F.ex;refine Wo n i C (λy H Q E h=>?_) λA a s H y Q E p h=>?_
 .obtain⟨α,S,j,_,l,m,_⟩:=h;rw[l.length,m]
 .obtain⟨α,S,j,wd,l,m,q⟩:=h;obtain⟨t,G,u⟩:=hbody b A a s H E p;refine⟨t,G,u α _ S _ H _ wd (BU l) ?_⟩;dsimp only at q
  cases z:Fb _ S with
  |ok fl S'=>
   rw[z]at q
   cases fl with
   |next ρ=>exact λσ α' H' d e J=>q .non α' H' d e (DenE.val rG)
   |ret r=>exact λv α' H' d e B=>q v α' H' d e B
   |brk ρ=>exact q.elim
   |cont ρ=>exact q.elim
  |exc c fs S'=>rw[z]at q;exact λα' H' d e=>q α' H' d e
  |no=>rw[z]at q;exact q
def _root_.L2.FnOk.noX(G:FnOk P w K mg base (YJ P w) k f fd ps (Kk g n F)):FnOk P w K mg base LD k f fd ps (XS g n F):=by
 have i: ∀{b H Q}, ∀{E},XS g n F b H Q E->Kk g n F b H Q E0:=λ⟨α,S,t,q,u,B,o⟩=>⟨α,S,t,q,u,B,o.wmono λ_ _ _ _ _ z=>z.elim⟩
 refine⟨λb H Q E h=>G.len b H Q E0 (i h),λA a s H d m b Q E p y v C h=>đ (G.run A a s H d m b Q E0 p y v C (i h)) λr D j=>?_⟩
 cases r with
 |error e=>
  obtain⟨_,_,_,_,_,_,_,_,_,_,_,_,_,_,_,z⟩:=j;exact z
 |ok fl=>cases fl<;>exact j
end
end M
end L2
namespace L2
open PySem PySem.Spec PyProof.Rows
structure Out(X:Cx)(pins:L1)(H:Hp)(s:Ĵ)(b:Addr):Prop where
 s0:X.s₀.heap.get? b=none
 h:H b=none
 pin: ∀p∈X.pn++pins,p.1≠b
 fld: ∃o vs,s.heap.get? b=some o/\o.data=.fields vs
section
variable{X:Cx}{H:Hp}{e b:Addr}
def Out.ne(o:Out X pins H s b)(d:s.heap.get? c=some oc)(nf: ∀a,oc.data≠.fields a):c≠b:=λz=>by obtain⟨h,a,f,e⟩:=o.fld;rw[z,f]at d;cases d;exact nf a e
def Out.loc(o:Out X pins H s b)(I:↑1):X.env.locals≠b:=by obtain⟨m,⟨f,es,e,a,d,_⟩,_⟩:=I.loc;exact o.ne a λh z=>by rw[d]at z;cases z
def Out.cell(o:Out X pins H s b)(I:↑1)(e:X.env.cells.lookup x=some c):c≠b:=by obtain⟨v,f,a,d⟩:=I.cell x c e;exact o.ne a λh z=>by rw[d]at z;cases z
def Inv.mvd(J:↑1)(q:X.ex=[])(m:Mvd (LB X.stack) e T s.heap h')(j:Out X pins H s e)(f:Out X pins H s T):Inv X pins σ H {s with heap:=h'}:=by
 obtain⟨u,y⟩:=J.moved q m j.s0 f.s0 j.h f.h;have K: ∀d,s.heap.Ns X.env.locals d->h'.Ns X.env.locals d:=λd w=>by obtain⟨o,es,C,A,r⟩:=w;obtain⟨G,b⟩:=m.slot _ o (j.loc J) (f.loc J) A;exact⟨_,es,C,b,r⟩
 have cell: ∀x c,X.env.cells.lookup x=some c-> ∀v,s.heap.IsCell c v->h'.IsCell c v:=λx c a v E=>by obtain⟨o,A,D⟩:=E;obtain⟨G,b⟩:=m.slot c o (j.cell J a) (f.cell J a) A;exact⟨_,b,D⟩
 refine⟨J.ok,J.os,J.bare,by rw[q];exact u,?_,λx c a=>?_,J.free,J.freeC,λp t=>?_,y,J.len⟩
 .obtain⟨d,w,F⟩:=J.loc;refine⟨d,K d w,λi x v b L B=>?_⟩;obtain⟨u,r,l⟩:=F i x v b L B;exact⟨u,r,l.imp id λ⟨k,c,a,z⟩=>⟨k,c,a,cell x c a _ z⟩⟩
 .obtain⟨v,z⟩:=J.cell x c a;exact⟨v,cell x c a v z⟩
 .obtain⟨b,n,ne,nf,I⟩:=J.pin p t;refine⟨m.keep p.1 p.2 (j.pin p t) (f.pin p t) (λz=>?_) b,n,ne,nf,I⟩;rcases mC.mp (J.stkSub _ z)with z|z
  .exact ne z
  .exact nf z
def Inv.track(J:↑1)(o:Out X pins H s e)(d:s.heap.get? e=some ob):Inv X pins σ (jL H e (.frz ob (.ext λh=>h.get? e=some ob))) s:=by
 refine⟨J.ok,J.os,J.bare,⟨J.base.keep,J.base.slot,λb a q n w=>?_,J.base.there,λb xs q=>?_,λb j u q=>?_,λb ps q=>?_⟩,J.loc,J.cell,?_,λx c i=>?_,λp f=>?_,λb u q=>?_,J.len⟩
 .rw[zP λz=>by rw[z,o.s0]at q;cases q];exact J.base.free b a q n w
 .rw[zP (zX (J.base.tups b xs q) o.h)];exact J.base.tups b xs q
 .rw[zP (zX (J.base.frzs b j u q) o.h)];exact J.base.frzs b j u q
 .obtain⟨t,z⟩:=J.base.tbls b ps q;exact⟨t,by rw[zP (zX z o.h)];exact z⟩
 .rw[zP (o.loc J)];exact J.free
 .rw[zP (o.cell J i)];exact J.freeC x c i
 .obtain⟨m,n,ne,nf,v⟩:=J.pin p f;exact⟨m,by rw[zP (o.pin p f)];exact n,ne,nf,v⟩
 .by_cases z:b=e
  .subst z;rw[zV]at q;cases q;exact⟨d,d,⟨ob,d⟩,λy A p k=>k _ p⟩
  .rw[zP z]at q;exact(J.hok b u q).stay (λ_ _ _ r=>r) (λc r=>by rw[zP (zX r o.h)];exact r) λc xs r=>by rw[zP (zX r o.h)];exact r
structure Hv where
 e:Addr
 H:Hp
 ob:Obj
 u:HO
 h:H e=some (.frz ob u)
 c: ∃vs,ob.data=.fields vs/\vs[2]? =some .none
abbrev Cx.inH(X:Cx)(v:Hv):Cx:={X with A:=X.A.mark (some (.ref v.e)),calm:=false,xe:=λ_ _=>False,H₀:=v.H}
abbrev Cx.inM(X:Cx)(v:Value):Cx:={X with A:=X.A.mark (some v),calm:=false,xe:=λ_ _=>False}
def Inv.inM(I:↑1)(v):Inv (X.inM v) pins σ H s:=⟨⟨I.ok.mod,I.ok.kind,I.ok.glob,I.ok.blt,I.ok.above,I.ok.inj,I.ok.has,I.ok.cab,λz=>(by cases z),I.ok.frames,I.ok.stk,I.ok.exf,I.ok.bs,I.ok.bsz,I.ok.noex,I.ok.exfs,I.ok.funs,I.ok.frf⟩,I.os,I.bare,I.base,I.loc,I.cell,I.free,I.freeC,I.pin,I.hok,I.len⟩
def HdA(A:Around)(H:Hp):Prop:= ∃e a u,A.handled=some (.ref e)/\H e=some (.frz a u)/\ ∃b,a.data=.fields b/\b[2]? =some .none
abbrev zAI(X:Cx):Prop:=HdA X.A X.H₀
def HdA.now(h:zAI X)(I:↑1):HdA X.A H:=let ⟨e,d,u,a,f,b⟩:=h;⟨e,d,u,a,I.base.frzs _ _ _ f,b⟩
def W5:zAI (X.inH v):=⟨v.e,v.ob,v.u,rfl,v.h,v.c⟩
def Inv.inH(I:↑1)(hv:v.H=jL X.H₀ v.e (.frz v.ob v.u))(n:X.s₀.heap.get? v.e=none)(i:H v.e=some (.frz v.ob v.u)):Inv (X.inH v) pins σ H s:=by
 have ne: ∀b o,X.s₀.heap.get? b=some o->v.H b=X.H₀ b:=λb o q=>by rw[hv,zP λz=>by rw[z,n]at q;cases q]
 have d: ∀b w,v.H b=some w->(∀o u,w≠.frz o u)->X.H₀ b=some w:=λb w q k=>by
  by_cases z:b=v.e
  .rw[z,v.h]at q;exact absurd (å q).symm (k _ _)
  .rw[hv,zP z]at q;exact q
 refine⟨⟨I.ok.mod,I.ok.kind,I.ok.glob,I.ok.blt,I.ok.above,I.ok.inj,I.ok.has,I.ok.cab,λz=>(by cases z),I.ok.frames,I.ok.stk,I.ok.exf,λb o q=>?_,I.ok.bsz,I.ok.noex,I.ok.exfs,I.ok.funs,λb q=>?_⟩,I.os,I.bare,⟨λb o q k=>?_,λb o q k=>?_,λb o q k=>?_,I.base.there,λb xs q=>I.base.tups b xs (d b _ q λ_ _ z=>by cases z),λb o u q=>?_,λb ps q=>I.base.tbls b ps (d b _ q λ_ _ z=>by cases z)⟩,I.loc,I.cell,I.free,I.freeC,I.pin,I.hok,I.len⟩
 .obtain⟨a,f⟩:=I.ok.bs b o q;exact⟨a,(ne b o a).trans f⟩
 .obtain⟨_,o,j,_⟩:=I.ok.funs.mem q;exact(ne b o j).trans (I.ok.frf b q)
 .exact I.base.keep b o q ((ne b o q).symm.trans k)
 .exact I.base.slot b o q ((ne b o q).symm.trans k)
 .exact I.base.free b o q ((ne b o q).symm.trans k)
 .by_cases z:b=v.e
  .subst z;have q:v.H v.e=some _:=q;rw[v.h]at q;cases q;exact i
  .have q:v.H b=some _:=q;rw[hv,zP z]at q;exact I.base.frzs b o u q
def Inv.outH(J:Inv X pins σ0 H0 s0)(hv:v.H=jL X.H₀ v.e (.frz v.ob v.u))(n:X.s₀.heap.get? v.e=none)(a:H0 v.e=none)(I:Inv (X.inH v) pins σ H s):Inv X pins σ H s:=by
 have ne: ∀b o,X.s₀.heap.get? b=some o->v.H b=X.H₀ b:=λb o q=>by rw[hv,zP λz=>by rw[z,n]at q;cases q]
 have d: ∀b w,X.H₀ b=some w->b≠v.e->v.H b=some w:=λb w q k=>by rw[hv,zP k];exact q
 refine⟨J.ok,I.os,I.bare,⟨λb o q k=>I.base.keep b o q ((ne b o q).trans k),λb o q k=>I.base.slot b o q ((ne b o q).trans k),λb o q k=>I.base.free b o q ((ne b o q).trans k),I.base.there,λb xs q=>I.base.tups b xs (d b _ q λz=>?_),λb o u q=>I.base.frzs b o u (d b _ q λz=>?_),λb ps q=>I.base.tbls b ps (d b _ q λz=>?_)⟩,I.loc,I.cell,I.free,I.freeC,I.pin,I.hok,I.len⟩
 .have:=J.base.tups b xs q;rw[z,a]at this;cases this
 .have:=J.base.frzs b o u q;rw[z,a]at this;cases this
 .obtain⟨_,this⟩:=J.base.tbls b ps q;rw[z,a]at this;cases this
theorem name_goes(I:↑1)(hN:X.N.Nodup)(hi:X.N[i]? =some x)(U:X.env.kindOf x=some .local)
  (h: ∀O,Inv X pins (σ.set i none) H O->Q () O):wpAny M A (do bindName X.env x .none;unbindBehindTheSuite X.env x pos) Q E s:=by
 obtain⟨m,hn,K⟩:=id I.loc;have t:(X.env.scope.kind==.class || (X.env.scope.kind==.module&&X.env.locals !=X.env.globals))=false:=by rw[I.ok.kind];rfl
 refine wpAny_nameGoes_keeps U hn t λh' v w hs=>h _ ?_;have keep: ∀b o,b≠X.env.locals->s.heap.get? b=some o->h'.get? b=some o:=λb o z q=>(hs.2 b z).trans q;have B: ∀b o,X.s₀.heap.get? b=some o->b≠X.env.locals:=λb o e=>é (æ (ã e) I.ok.above);obtain⟨aa,_,_,D,_⟩:=id w
 have there: ∀b o,s.heap.get? b=some o-> ∃G,h'.get? b=some G:=λb o q=>by
  by_cases z:b=X.env.locals
  .rw[z];exact⟨_,D⟩
  .exact⟨o,keep b o z q⟩
 refine⟨I.ok,I.os,I.bare,⟨λb o e n L f=>keep b o (B b o e) (I.base.keep b o e n L f),λb o e n L f=>?_,I.base.free,λb o e f=>?_,I.base.tups,I.base.frzs,I.base.tbls⟩,⟨_,w,λj y W a d S=>?_⟩,λy c e=>?_,I.free,I.freeC,λp T=>?_,λb u q=>?_,by rw[Ą];exact I.len⟩
 .obtain⟨Y,a⟩:=I.base.slot b o e n L f;exact⟨Y,keep b _ (B b o e) a⟩
 .obtain⟨G,a⟩:=I.base.there b o e f;exact there b G a
 .have P:j≠i:=λz=>by
   subst z;by_cases K:j<σ.length
   .rw[Ċ K]at d;cases d
   .rw[List.getElem?_eq_none (by rw[Ą];lia)]at d;cases d
  rw[Ā (Ne.symm P)]at d;obtain⟨u,r,q⟩:=K j y W a d S;refine⟨u,r,?_⟩;have C:y≠x:=λz=>P (NI hN a (z▸hi));rcases q with⟨k,q⟩|⟨k,c,e,z⟩
  .exact .inl ⟨k,by simp[C,q]⟩
  .exact .inr ⟨k,c,e,z.sameBut hs (I.cne y c e)⟩
 .obtain⟨J,z⟩:=I.cell y c e;exact⟨J,z.sameBut hs (I.cne y c e)⟩
 .obtain⟨e,n,ne,nf,Z⟩:=I.pin p T;exact⟨keep p.1 p.2 ne e,n,ne,nf,Z⟩
 .refine(I.hok b u q).stay (λc J F r=>keep c J (λz=>?_) r) (λ_ q=>q) λ_ _ q=>q
  have: ∃y,H c=some y:=by
   rcases F with rfl|F
   .exact⟨_,q⟩
   .exact⟨_,F⟩
  obtain⟨y,C⟩:=this;rw[z,I.free]at C;cases C
end
theorem W6:isSubtype (.type "type") (.type "tuple")=pure false:=by rw[isSubtype_type];kernel_rfl
def Cm{os:OsState}(O:uM h C M)(b:h.get? e=some oe)(m:oe.cls=.ref C)
  (hq:Q true ⟨h,g,d,t,os⟩):wpAny Mo A (excMatches (.ref e) (.ref M)) Q E ⟨h,g,d,t,os⟩:=by
 have i:(Value.ref C::.ref M::iV).contains (.ref M)=true:=by simp[Ĉ]
 have f:=W6;have k:=O;obtain⟨_,_,_,_,_,_,_,_,_,_,_,_,_,_,_,_,_,_,_,_,_,_,_,_,_,_,_,_,_,_,_,_,_,_,_,_,_,a,_⟩:=O;have j:(Value.ref M::iV).contains (.type "BaseException")=true:=by simp[Ĉ]
 unfold excMatches
 repeat (first |(with_reducible refine í b ?_;rw[m])|with_reducible refine í a ?_|(with_reducible refine uN k ?_;rw[i])|(with_reducible refine wpAny_isSubtype_exc a ?_;rw[j])|wp_step)
 exact hq
end L2
namespace L2
namespace M
open PySem PySem.Spec PyProof.Rows
def Slots.unset{K:P0}(q:Slots K α H ρ σ)(i):Slots K α H (ρ.set i none) (σ.set i none):=by
 refine⟨by rw[Ą,Ą];exact q.len,λj d e=>?_⟩;rcases En e with⟨_,z,_⟩|⟨hj,e'⟩
 .cases z
 .obtain⟨v,a,b⟩:=q.slot j d e';exact⟨v,by rw[Ā (Ne.symm hj)];exact a,b⟩
noncomputable def W7(i:Nat):Fl->Sto->R Fl
 |.next ρ,S=>.ok (.next (ρ.set i none)) S
 |.ret r,S=>.ok (.ret r) S
 |.brk ρ,S=>.ok (.brk (ρ.set i none)) S
 |.cont ρ,S=>.ok (.cont (ρ.set i none)) S
def Co(ns:C0)(i:Nat)(a:Er->Sto->R Fl)(b:AY)(ρ:Rho):R Er->R Fl
 |.ok r S=>a r S
 |.exc c fs S=>if c∈ns then(noX (b (ρ.set i (some (.loc S.length))) (S++[.ins c fs]))).bind (W7 i)else .no
 |.no=>.no
def PostS.exprX[Dn β τ]{k:β->Sto->R Fl}(q:PostS g W α H D ((noX m).bind k))
  (f: ∀u b h a e,m=.ok b h->Ext α H a e->Wd g a h e->Dn.d g H a h e b u->PostS g W α H D (k b h)->Q' u e):Post g W0 α H m Q':=by
 cases m with
 |ok b S=>exact λu a e x w d=>f u b S a e rfl x w d q
 |exc c fs S=>exact q.elim
 |no=>exact q
def E2(X:Cx)(W:XW)(ns:C0)(i:Nat)(e:AY)(ρ:Rho)(α:B9)(H:Hp)(D:Ends):XK:=λa d H'=> ∃c fs b α' C,a=.ref C/\X.mg c=some (.ref C)/\Ext α H α' H'/\Wd X.g α' b H'/\FsD X.g α' H' d fs/\
 PostS X.g W α H D (if c∈ns then(noX (e (ρ.set i (some (.loc b.length))) (b++[.ins c fs]))).bind (W7 i)else .no)
section
variable{s:Ĵ}
def C6(T:XTab X.K X.mg M cs)(au:Gl X "MendError")(hN:X.N.Nodup)(hi:X.N[i]? =some nm)(U:X.env.kindOf nm=some .local)(E: ∀v,JH (X.inH v) W0 (b0::suite) Fh)(y:X.ex=[])(k:X.stack=X.env::X.outer)(aq:X.env.frame=some X.env.locals)
  (sl:Slots X.K α H ρ σ) (I1:Inv X pins σ H1 s1)  (hq:YJ X.prog X.w X.stack H1 s1 (E2 X W (cs.map (·.1)) i Fh ρ α H D) x s'):
  wpAny ↑6 X.A (noteFrame x X.env) (λ_ ab=>wpAny ↑6 X.A (setFlight x none) (λ_ Z=>wpAny ↑6 X.A (handleBy x X.env [.ExceptHandler (some (.Name "MendError" mp)) (some nm) (b0::suite) hpos]) (SP X pins D) X.xe Z) X.xe ab) X.xe s':=by
 obtain⟨e,Tb,C,d,H',rfl,os,bare,un,ai,fl,ne,nT,he,hT,c,fs,S2,α',C',eC,O,xx,w2,hf,q⟩:=hq;cases eC;split at q
 .rename_i ax;have J:Inv X pins σ H' s':=I1.call' (ch:=[]) os un ai bare (λ_ z=>nomatch z);have ah:X.A.frames=some (X.env::X.outer):=by rw[<-k];exact J.ok.frames
  have hl:s'.heap.FunFrames X.base (X.env::X.outer):=by rw[<-k];exact J.stack
  have b:Out X pins H' s' e:=by obtain⟨a,G,_,_,t,_,_,r,_⟩:=id fl;exact⟨I1.older y ne,he,λp hp z=>(by have:=(I1.pin p hp).1;rw[z,ne]at this;cases this),a,G,t,r⟩
  have oT:Out X pins H' s' Tb:=by obtain⟨_,_,a,ts,_,_,_,_,_,_,t,r,_⟩:=id fl;exact⟨I1.older y nT,hT,λp hp z=>(by have:=(I1.pin p hp).1;rw[z,nT]at this;cases this),a,ts,t,r⟩
  refine JE ah hl aq fl λh3 T3 n3 m3 f3=>?_;rw[<-k]at m3;have J3:=J.mvd y m3 b oT;have a0:Out X pins H' {s' with heap:=h3} e:=by obtain⟨a,G,_,_,t,_,_,r,_⟩:=id f3;exact⟨b.s0,b.h,b.pin,a,G,t,r⟩
  have B:Out X pins H' {s' with heap:=h3} T3:=by obtain⟨_,_,a,ts,_,_,_,_,_,_,t,r,_⟩:=id f3;exact⟨J.older y n3,J.hok.none_of n3,λp hp z=>(by have:=(J.pin p hp).1;rw[z,n3]at this;cases this),a,ts,t,r⟩
  refine iB (env:=X.env) (outer:=X.outer) f3 λh4 m4 f4=>?_;rw[<-k]at m4;have J4:=J3.mvd y m4 a0 B;have av:Out X pins H' {s' with heap:=h4} e:=by obtain⟨a,G,_,_,t,_,_,r,_⟩:=id f4;exact⟨b.s0,b.h,b.pin,a,G,t,r⟩
  have ak:Out X pins H' {s' with heap:=h4} T3:=by obtain⟨_,_,a,ts,_,_,_,_,_,_,t,r,_⟩:=id f4;exact⟨B.s0,B.h,B.pin,a,ts,t,r⟩
  have ae: ∃i,CG X.K C (.ref M::iV) i:=by
   obtain⟨⟨c',C'⟩,ay,rfl⟩:=mM0.mp ax;obtain⟨q1,q2⟩:=T.each.at ay;have:C=C':=by rw[O]at q1;cases q1;rfl
   rw[this];exact q2
  obtain⟨a3,cC⟩:=ae;refine wpAny_handleBy_cons (codeAny_handlers_test (rC (X:=X.inM (.ref e)) (J4.inM (.ref e)) au T.m ?_)) (by intro z;cases z);obtain⟨a4,_,_,_,ao,af,_⟩:=id f4;refine Cm (IC J4.kIn cC T.mc) ao af ?_;refine codeAny_handlers_suite_as ?_;refine iB (env:=X.env) (outer:=X.outer) (s:={s' with heap:=h4}) f4 λh5 m5 f5=>?_;rw[<-k]at m5;have J5:=J4.mvd y m5 av ak;obtain⟨a,G,_,_,t,aa,ag,r,_,_,_,_,_,az⟩:=id f5;have aw:Out X pins H' {s' with heap:=h5} e:=⟨b.s0,b.h,b.pin,a,G,t,r⟩
  have J6:=J5.track aw t
  have xw:=w2.put (m:=.ins c fs) b.h (by
   rcases hf with rfl|⟨dx,gs,od,hd1,hd2,hd3⟩
   .exact⟨C,[],O,.nil,a,zV,aa,.inl rfl⟩
   .have ar:Ext α' H' α' (jL H' e (.frz a (.ext λh=>h.get? e=some a))):=w2.newx b.h;exact⟨C,gs,O,(hd3.ex0 ar.toEx0).ex0 (Ex0.grow _ _ _),a,zV,aa,.inr ⟨dx,od,ag.trans hd1,(by rw[zP (zX hd2 b.h)];exact hd2),G,r⟩⟩)
  let V:Hv:=⟨e,jL X.H₀ e (.frz a (.ext λh=>h.get? e=some a)),a,_,zV,G,r,az⟩
  refine NL (X:=X.inH V) (J6.inH (v:=V) rfl b.s0 zV) hN hi (.inl U) (v:=.ref e) rfl (λs7 J7=>?_) (.inr U);obtain⟨th,aj,kh⟩:=E V;let D':Ends:={nx:=λσ H=>D.nx (σ.set i none) H,rt:=D.rt,bk:=λσ H=>D.bk (σ.set i none) H,ct:=λσ H=>D.ct (σ.set i none) H}
  have F:PostS X.g W (α'++[e]) _ D _:=PostS.shift (xx.trans xw.1) q
  have ht:th D' (σ.set i (some (.ref e))) (jL H' e (.frz a (.ext λh=>h.get? e=some a))):=by
   refine kh (α'++[e]) (ρ.set i (some (.loc S2.length))) (S2++[.ins c fs]) _ _ D' xw.2 (((sl.ext xx).ext xw.1).set (HP (by rw[<-w2.len,â (à _),sub_self];rfl))) ?_
   cases z:Fh (ρ.set i (some (.loc S2.length))) (S2++[.ins c fs])with
   |ok fl S8=>
    rw[z]at F
    cases fl with
    |next ρ8=>exact λj n o P L Y=>F (j.set i none) n o P L (Y.unset i)
    |ret r8=>exact λv8 n o P L d8=>F v8 n o P L d8
    |brk ρ8=>exact λj n o P L Y=>F (j.set i none) n o P L (Y.unset i)
    |cont ρ8=>exact λj n o P L Y=>F (j.set i none) n o P L (Y.unset i)
   |exc c8 fs8 S8=>rw[z]at F;exact F.elim
   |no=>rw[z]at F;exact F.elim
  refine ó (aj pins s7 _ _ D' J7 ht) (λf Y hs=>?_) λ_ _ z=>z.elim;show wpAny _ _ _ _ _ _
  cases f with
  |next=>
   obtain⟨j,o,Q,S⟩:=hs;exact name_goes (J.outH (v:=V) rfl b.s0 b.h Q) hN hi U λs9 I=>⟨_,o,I,S⟩
  |brk=>
   obtain⟨j,o,Q,S⟩:=hs;exact name_goes (J.outH (v:=V) rfl b.s0 b.h Q) hN hi U λs9 I=>⟨_,o,I,S⟩
  |cont=>
   obtain⟨j,o,Q,S⟩:=hs;exact name_goes (J.outH (v:=V) rfl b.s0 b.h Q) hN hi U λs9 I=>⟨_,o,I,S⟩
  |ret u=>
   obtain⟨v8,j,o,Q,r8,S⟩:=hs;exact name_goes (J.outH (v:=V) rfl b.s0 b.h Q) hN hi U λs9 I=>⟨v8,_,o,I,r8,S⟩
 .exact q.elim
end
section
variable{W:XW}{i:Nat}{nm:Str}{mp hpos cpos epos pos p:Pos}{af:Rho->Sto->R (List Er)}
def Np(G:FnOk X.prog X.w X.K X.mg X.base (YJ X.prog X.w) k fa fd ps (Kk X.g n F))(o:Room k X.A)(j:Gl X x)(hm:X.mg x=some (.ref fa))(m:PySem.W.keepIn X.K (.ref fa)=true)(t:Binds X.K fd ps [])
  (ha:PA X.nox (e::es) ta) (I:↑1) (ht:ta σ H λi a=>Kk X.g n F i a Q E) (hx: ∀a s1 x f,Inv X pins σ a s1->YJ X.prog X.w X.stack a s1 E x f->Ex x f) (hdb:(x==("__debug__"))=false)
  (he:starEach (e::es) X.env=(false,eval e X.env)::starEach es X.env) (hpl:(backTo cpos (starEach es X.env)).any (·.1)=false):
  wpAny ↑6 X.A (eval (.Call (.Name x p) (e::es) [] cpos) X.env) (EP X pins σ Q) Ex s:=by
 refine ı (rC I j hm ?_ hdb);refine PySem.W.callWith_K I.ok.mod.kin m (ó (ha cpos pins s σ H _ (I.wish _) ht) (λd s1 ⟨i,a,I1,r,q⟩=>⟨I1.unwish.kIn,?_⟩) λ_ _ z=>z.elim) he hpl;have h:=I1.unwish;have v:d.length=ps.length:=by rw[<-r.length];exact G.len _ _ _ _ q
 refine wpAny_call (đ (G.run X.A X.stack s1 a ⟨d,[]⟩ d i Q E o h.env0 ?_ r q) λr f b=>?_)
 .have:=t s1 d h.kIn (by rw[aN];exact v);rw[aN]at this;exact this
 .cases r with
  |error y=>exact hx a s1 y f h b
  |ok fl=>
   cases fl with
   |ret u=>exact h.after b
   |next=>exact False.elim b
   |brk=>exact False.elim b
   |cont=>exact False.elim b
def Nq{t:TA}(B: ∀α b S σ H Q,Wd X.g α S H->Slots X.K α H b σ->Post X.g W0 α H (af b S) Q->t σ H Q)(wd:Wd X.g α S H)(v:Slots X.K α H b σ)
  (q:PostS X.g W α H D ((noX (af b S)).bind λk h=>Co ns i kn Fh b (jV n F k h))) (hkn: ∀r h u a e,PostS X.g W α H D (kn r h)->Ext α H a e->Wd X.g a h e->DenE X.K H a e r u->Q u e):
  t σ H λs e=>Kk X.g n F s e Q (E2 X W ns i Fh b α H D):=by
 refine B α b S σ H _ wd v (q.exprX λs k h a e J G E w j=>GH G E w ?_)
 cases z:jV n F k h with
 |ok r S2=>rw[z]at j;exact λu f p m o A=>hkn r S2 u f p j m o A
 |exc c fs S2=>rw[z]at j;exact λf p m o C d I y=>⟨c,fs,S2,f,C,rfl,I,m,o,y,j⟩
 |no=>rw[z]at j;exact j.elim
def Ug(T:XTab X.K X.mg M cs)(b:Gl X "MendError")(hN:X.N.Nodup)(G:FnOk X.prog X.w X.K X.mg X.base (YJ X.prog X.w) k fa fd ps (Kk X.g n F))(E:Room k X.A)(Q:Gl X x)(hm:X.mg x=some (.ref fa))(f:PySem.W.keepIn X.K (.ref fa)=true)(hb:Binds X.K fd ps [])
  (j:IW X.nox W0 (e::es) af) (hsuite: ∀v,JH (X.inH v) W0 (b0::suite) Fh) (hns:cs.map (·.1)=ns:=by rfl) (hi:X.N[i]? =some nm:=by rfl) (hk:X.env.kindOf nm=some .local:=by rfl) (hex:X.ex=[]:=by rfl) (hstk:X.stack=X.env::X.outer:=by rfl) (hfm:X.env.frame=some X.env.locals:=by rfl)
  (hdb:(x==("__debug__"))=false:=by decide) (he:q8 X e es:=by rfl) (hpl:(backTo cpos (starEach es X.env)).any (·.1)=false:=by rfl) (hs:swapsWith (.Call (.Name x p) (e::es) [] cpos) none epos.line X.env=pure false:=by rfl):
  Eo X W (.Try [.Expr (.Call (.Name x p) (e::es) [] cpos) epos] [.ExceptHandler (some (.Name "MendError" mp)) (some nm) (b0::suite) hpos] [] [] pos)
   (λa S=>(noX (af a S)).bind λU o=>Co ns i (λ_ Y=>.ok (.next a) Y) Fh a (jV n F U o)):=by
 subst hns;obtain⟨ta,j,J⟩:=j
 refine⟨λD σ H=> ∀pins s,Inv X pins σ H s->wpAny _ X.A _ _ X.xe s,
  λpins s σ H D I h=>h pins s I,λα a S σ H D wd d q pins s I=>?_⟩
 refine wB (ē (wpAny_tryStmt_except (wpAny_execs_cons (wpAny_Expr_any ?_ I.quiet hs))));have Z:=Nq J wd d q λr o u m z O t L _=>O σ m z t L (d.ext t);refine kL (Np G E Q hm f hb j I Z (λz s1 y C I1 P=>C6 T b hN hi hk hsuite hex hstk hfm d I1 P) hdb he hpl) λu C ⟨v,H',I',_,B⟩=>?_;exact İ (İ ⟨σ,H',I',B⟩)
end
def xcl_mk{K:P0}
  (l:K.lookup C=some (excClassObj nm q C N bs bm hd sn sub ab col dd k0 k1 k2 k3 k5 "ValueError.__new__")) (n:K.lookup N=some ⟨oc,od,.dict es ep,sl⟩) (o:(es.toList.all λe=>match e.key with |.str _ _=>true|_=>false)=true)
  (i:PySem.W.nsIn K N "__init__"=some init) (q1:PySem.W.nsIn K N "__class__"=some none) (q2:PySem.W.nsIn K N "__getattribute__"=some none) (q3:PySem.W.nsIn K N "__getattr__"=some none)
  (q4:PySem.W.nsIn K N "__setattr__"=some none) (q5:PySem.W.nsIn K N "place"=some none) (q6:PySem.W.nsIn K N "number"=some none) (hh:hd=true):CG K C bm init:=by
 refine⟨nm,q,N,bs,hd,sn,sub,ab,col,dd,k0,k1,k2,k3,k5,l,?_,i,λy a=>?_,hh⟩
 .unfold PySem.W.nsOkIn;rw[n];rw[Array.all_toList]at o;exact o
 .simp only[qn,mC,nM,or_false]at a;rcases a with rfl|rfl|rfl|rfl|rfl|rfl<;>assumption
end M
end L2
namespace Srt
open PySem PyProof.Rows
def Fo:Bool->Keyed->Array Keyed->Nat->Nat->Nat->StateT SortSt Sem (Option Nat):=sortPriv% PySem.Builtin.gallop
def FM:Nat->StateT SortSt Sem Unit:=sortPriv% PySem.Builtin.setMinGallop
end Srt
namespace Srt
variable{β:Type}{le:β->β->Prop}
structure Two(le:β->β->Prop)(T out xs ys:List β):Prop where
 hx:(out++xs).Pairwise le
 hy:(out++ys).Pairwise le
 pm:(out++(xs++ys)).Perm T
structure TwoR(le:β->β->Prop)(T xs ys R:List β):Prop where
 hx:(xs++R).Pairwise le
 hy:(ys++R).Pairwise le
 pm:(xs++ys++R).Perm T
end Srt
namespace Srt
open PySem PyProof.Rows
abbrev SM:=StateT SortSt Sem
abbrev G3:=Option (Option Nat)×Nat×Nat
end Srt
namespace Srt
open PySem PyProof.Rows
section
abbrev Le(lt:Keyed->Keyed->Bool)(x y:Keyed):Prop:=lt y x=false
def SL(lt:Keyed->Keyed->Bool)(l:List Keyed)(b n:Nat):Prop:= ∀i j x y,i<=j->j<n->l[b+i]? =some x->l[b+j]? =some y->lt y x=false
end
end Srt
namespace Srt
open PySem PyProof.Rows
abbrev V:=Array Keyed
abbrev L6:=Option V×V×Nat×Nat×Nat×Nat
abbrev L7:=Option V×V×Nat×Nat×Nat×Nat×Nat
noncomputable abbrev dnL(a b o:V)(i j:Nat):V:=o++a.extract i a.size++b.extract j b.size
noncomputable abbrev laL(a b o:V)(i j:Nat):V:=o++b.extract j b.size++a.extract i a.size
def one1(a b:V)(g:Nat)(c:L6):SM (ForInStep L6):=
 elem' b c.2.2.2.1 >>= λy=>elem' a c.2.2.1 >>= λx=>lt' y x >>= λr=>match r with
  |some q=>if q=true then elem' b c.2.2.2.1 >>= λy=>
     if(c.2.2.2.1+1==b.size)=true then pure (.done (some (dnL a b (c.2.1.push y) c.2.2.1 (c.2.2.2.1+1)),c.2.1.push y,c.2.2.1,c.2.2.2.1+1,0,c.2.2.2.2.2+1))
     else if c.2.2.2.2.2+1>=g then pure (.done (none,c.2.1.push y,c.2.2.1,c.2.2.2.1+1,0,c.2.2.2.2.2+1))
     else pure (.yield (none,c.2.1.push y,c.2.2.1,c.2.2.2.1+1,0,c.2.2.2.2.2+1))
    else elem' a c.2.2.1 >>= λx=>
     if(c.2.2.1+1+1==a.size)=true then pure (.done (some (laL a b (c.2.1.push x) (c.2.2.1+1) c.2.2.2.1),c.2.1.push x,c.2.2.1+1,c.2.2.2.1,c.2.2.2.2.1+1,0))
     else if c.2.2.2.2.1+1>=g then pure (.done (none,c.2.1.push x,c.2.2.1+1,c.2.2.2.1,c.2.2.2.2.1+1,0))
     else pure (.yield (none,c.2.1.push x,c.2.2.1+1,c.2.2.2.1,c.2.2.2.2.1+1,0))
  |_=>pure (.done (some (dnL a b c.2.1 c.2.2.1 c.2.2.2.1),c.2.1,c.2.2.1,c.2.2.2.1,c.2.2.2.2.1,c.2.2.2.2.2))
def in1(a b:V)(t g:Nat)(c:L6):SM L6:=forIn [0:t] c λ_ c=>one1 a b g c
end Srt
namespace Srt
open PySem PyProof.Rows
def Sg(st a:SortSt):Prop:= ∃g,a=SortSt.mk' (kindOf st) (arrOf st) (pendingOf st) g (failedOf st)
theorem Sg.kind{st:SortSt}(h:Sg st st'):kindOf st'=kindOf st:=by obtain⟨g,rfl⟩:=h;rfl
section
abbrev TwoA(lt:Keyed->Keyed->Bool)(a b o:V)(i j:Nat):Prop:=Two (Le lt) (a.toList++b.toList) o.toList (a.toList.drop i) (b.toList.drop j)
def FinA(lt:Keyed->Keyed->Bool)(a b r:V):Prop:=r.toList.Pairwise (Le lt)/\r.toList.Perm (a.toList++b.toList)
def TwoA.sa(h:TwoA lt a b o i j):(a.toList.drop i).Pairwise (Le lt):=(List.pairwise_append.mp h.hx).2.1
def TwoA.len(h:TwoA lt a b o i j):o.size+((a.size - i)+(b.size - j))=a.size+b.size:=by have:=h.pm.length_eq;simpa [lA,ú]using this
def I1(lt:Keyed->Keyed->Bool)(a b o:V)(i j:Nat):Prop:=i+1<a.size/\j<b.size/\TwoA lt a b o i j
def N7(lt:Keyed->Keyed->Bool)(a b:V)(n:Nat)(c:L7):Prop:= ∃o i j g p q,c=(none,o,i,j,g,p,q)/\I1 lt a b o i j/\n<=o.size
def P7(lt:Keyed->Keyed->Bool)(a b:V)(n:Nat)(c:L7):Prop:=(∃r e,c=(some r,e)/\FinA lt a b r)\/N7 lt a b n c
end
end Srt
namespace Srt
open PySem PyProof.Rows
abbrev H5:=Option V×Nat×Nat×V×Nat
abbrev H6:=Option V×Nat×Nat×V×Nat×Nat
abbrev H7:=Option V×Nat×Nat×V×Nat×Nat×Nat
noncomputable abbrev C7(a b o:V)(i j:Nat):V:=a.extract 0 i++b.extract 0 j++o.reverse
noncomputable abbrev fbH(a b o:V)(i j:Nat):V:=b.extract 0 j++a.extract 0 i++o.reverse
def hone(a b:V)(g:Nat)(c:H6):SM (ForInStep H6):=
 elem' b (c.2.2.1 - 1) >>= λy=>elem' a (c.2.1 - 1) >>= λx=>lt' y x >>= λr=>match r with
  |some q=>if q=true then elem' a (c.2.1 - 1) >>= λx=>
     if(c.2.1 - 1==0)=true then pure (.done (some (C7 a b (c.2.2.2.1.push x) (c.2.1 - 1) c.2.2.1),c.2.1 - 1,c.2.2.1,c.2.2.2.1.push x,c.2.2.2.2.1+1,0))
     else if c.2.2.2.2.1+1>=g then pure (.done (none,c.2.1 - 1,c.2.2.1,c.2.2.2.1.push x,c.2.2.2.2.1+1,0))
     else pure (.yield (none,c.2.1 - 1,c.2.2.1,c.2.2.2.1.push x,c.2.2.2.2.1+1,0))
    else elem' b (c.2.2.1 - 1) >>= λy=>
     if(c.2.2.1 - 1==1)=true then pure (.done (some (fbH a b (c.2.2.2.1.push y) c.2.1 (c.2.2.1 - 1)),c.2.1,c.2.2.1 - 1,c.2.2.2.1.push y,0,c.2.2.2.2.2+1))
     else if c.2.2.2.2.2+1>=g then pure (.done (none,c.2.1,c.2.2.1 - 1,c.2.2.2.1.push y,0,c.2.2.2.2.2+1))
     else pure (.yield (none,c.2.1,c.2.2.1 - 1,c.2.2.2.1.push y,0,c.2.2.2.2.2+1))
  |_=>pure (.done (some (C7 a b c.2.2.2.1 c.2.1 c.2.2.1),c.2.1,c.2.2.1,c.2.2.2.1,c.2.2.2.2.1,c.2.2.2.2.2))
def hin1(a b:V)(t g:Nat)(c:H6):SM H6:=forIn [0:t] c λ_ c=>hone a b g c
def hw4(a b o:V)(i j g p q:Nat):SM (ForInStep H7):=
 elem' a (i - 1) >>= λx=>if(i - 1==0)=true then pure (.done (some (C7 a b (o.push x) (i - 1) j),i - 1,j,o.push x,g,p,q))
  else if(decide (p<7)&&decide (q<7))=true then pure (.done (none,i - 1,j,o.push x,g,p,q))else pure (.yield (none,i - 1,j,o.push x,g,p,q))
def O6(a b o:V)(i j g p q:Nat):SM (ForInStep H7):=
 elem' b (j - 1) >>= λy=>if(j - 1==1)=true then pure (.done (some (fbH a b (o.push y) i (j - 1)),i,j - 1,o.push y,g,p,q))
  else elem' a (i - 1) >>= λx=>Fo true x b 0 (j - 1) (j - 1 - 1) >>= λr=>match r with
   |some k=>if j - 1 - k>0 then
      if(k==1)=true then pure (.done (some (fbH a b (o.push y++(b.extract k (j - 1)).reverse) i k),i,k,o.push y++(b.extract k (j - 1)).reverse,g,p,j - 1 - k))
      else if(k==0)=true then pure (.done (some (C7 a b (o.push y++(b.extract k (j - 1)).reverse) i k),i,k,o.push y++(b.extract k (j - 1)).reverse,g,p,j - 1 - k))
      else hw4 a b (o.push y++(b.extract k (j - 1)).reverse) i k g p (j - 1 - k)
     else hw4 a b (o.push y) i (j - 1) g p (j - 1 - k)
   |_=>pure (.done (some (C7 a b (o.push y) i (j - 1)),i,j - 1,o.push y,g,p,q))
def O7(a b o:V)(i j g p q:Nat):SM (ForInStep H7):=
 FM g >>= λ_=>elem' b (j - 1) >>= λy=>Fo false y a 0 i (i - 1) >>= λr=>match r with
  |some k=>if i - k>0 then
     if(k==0)=true then pure (.done (some (C7 a b (o++(a.extract k i).reverse) k j),k,j,o++(a.extract k i).reverse,g,i - k,q))
     else O6 a b (o++(a.extract k i).reverse) k j g (i - k) q
    else O6 a b o i j g (i - k) q
  |_=>pure (.done (some (C7 a b o i j),i,j,o,g,p,q))
def hin2(a b:V)(t:Nat)(c:H7):SM H7:=forIn [0:t] c λ_ c=>
 if c.2.2.2.2.1>1 then O7 a b c.2.2.2.1 c.2.1 c.2.2.1 (c.2.2.2.2.1 - 1) c.2.2.2.2.2.1 c.2.2.2.2.2.2
 else O7 a b c.2.2.2.1 c.2.1 c.2.2.1 c.2.2.2.2.1 c.2.2.2.2.2.1 c.2.2.2.2.2.2
def outH(a b:V)(t:Nat)(c:H5):SM H5:=forIn [0:t] c λ_ c=>
 hin1 a b t c.2.2.2.2 (none,c.2.1,c.2.2.1,c.2.2.2.1,0,0) >>= λd=>match d.1 with
  |some r=>pure (.done (some r,d.2.1,d.2.2.1,d.2.2.2.1,c.2.2.2.2))
  |none=>liftM (rule "list.sort.gallop") >>= λ_=>hin2 a b t (none,d.2.1,d.2.2.1,d.2.2.2.1,c.2.2.2.2+1,d.2.2.2.2.1,d.2.2.2.2.2) >>= λe=>match e.1 with
   |some r=>pure (.done (some r,e.2.1,e.2.2.1,e.2.2.2.1,e.2.2.2.2.1))
   |none=>FM (e.2.2.2.2.1+1) >>= λ_=>pure (.yield (none,e.2.1,e.2.2.1,e.2.2.2.1,e.2.2.2.2.1+1))
section
abbrev TwoH(lt:Keyed->Keyed->Bool)(a b o:V)(i j:Nat):Prop:=TwoR (Le lt) (a.toList++b.toList) (a.toList.take i) (b.toList.take j) o.toList.reverse
def TwoH.sa(h:TwoH lt a b o i j):(a.toList.take i).Pairwise (Le lt):=(List.pairwise_append.mp h.hx).1
theorem TwoH.len(h:TwoH lt a b o i j)(e:i<=a.size)(d:j<=b.size):o.size+(i+j)=a.size+b.size:=by
 have:=h.pm.length_eq;simp only[lA,lT,List.length_reverse,Đ]at this
 lia
def J1(lt:Keyed->Keyed->Bool)(a b o:V)(i j:Nat):Prop:=1<=i/\i<=a.size/\2<=j/\j<=b.size/\TwoH lt a b o i j
def R6(lt:Keyed->Keyed->Bool)(a b:V)(n:Nat)(c:H6):Prop:= ∃i j o p q,c=(none,i,j,o,p,q)/\J1 lt a b o i j/\n<=o.size
def S6(lt:Keyed->Keyed->Bool)(a b:V)(n:Nat)(c:H6):Prop:=(∃r e,c=(some r,e)/\FinA lt a b r)\/R6 lt a b n c
end
end Srt
namespace Srt
open PySem PyProof.Rows
abbrev C2:=Option (Option Nat)×Nat
noncomputable def Kx(d:Keyed)(v:V)(i:Nat):Keyed:=(v[i]?).getD d
structure SB(a₀:V)(kd:SortKind)(pd:Array (Nat×Nat×Nat))(f:V)(lo:Nat)(st:SortSt):Prop where
 pm:(arrOf st).Perm a₀
 kind:kindOf st=kd
 fl:failedOf st=none
 pd:pendingOf st=pd
 fx: ∀i,i<lo->(arrOf st)[i]? =f[i]?
section
variable{pd:Array (Nat×Nat×Nat)}{lo:Nat}{st:SortSt}
def SB.size(h:SB a₀ kd pd f lo st):(arrOf st).size=a₀.size:=h.pm.size_eq
def Dn(lt:Keyed->Keyed->Bool)(d:Keyed)(v:V)(lo n:Nat):Prop:= ∀i j,i<=j->j<n->Le lt (Kx d v (lo+j)) (Kx d v (lo+i))
end
end Srt
namespace Srt
open PySem PyProof.Rows
section
variable{kd:SortKind}{lt:Keyed->Keyed->Bool}{a₀:V}{pd:Array (Nat×Nat×Nat)}{st:SortSt}
structure Out(a₀:V)(kd:SortKind)(lt:Keyed->Keyed->Bool)(n:Nat)(st:SortSt):Prop where
 pm:(arrOf st).toList.Perm a₀.toList
 kind:kindOf st=kd
 fl:failedOf st=none
 pd: ∃w,pendingOf st=#[(0,n,w)]
 so:(arrOf st).toList.Pairwise (Le lt)
end
end Srt
namespace Srt
open PySem PyProof.Rows
abbrev Rn:=Nat×Nat×Nat
def RunsOk(lt:Keyed->Keyed->Bool)(l:List Keyed):Nat->List Rn->Nat->Prop
 |p,[],q=>p=q
 |p,r::rs,q=>r.1=p/\1<=r.2.1/\SL lt l p r.2.1/\RunsOk lt l (p+r.2.1) rs q
section
theorem RunsOk.le: ∀{rs}{p q},RunsOk lt l p rs q->p+rs.length<=q
 |[],p,q,h=>by cases h;exact à _
 |r::rs,p,q,h=>by
  have:=RunsOk.le h.2.2.2;have:=h.2.1;rw[lC0]
  lia
end
section
variable{kd:SortKind}{lt:Keyed->Keyed->Bool}{a₀:V}{st:SortSt}
structure ST(a₀:V)(kd:SortKind)(lt:Keyed->Keyed->Bool)(rs:List Rn)(q:Nat)(st:SortSt):Prop where
 pm:(arrOf st).toList.Perm a₀.toList
 kind:kindOf st=kd
 fl:failedOf st=none
 pd:pendingOf st=rs.toArray
 ok:RunsOk lt (arrOf st).toList 0 rs q
 le:q<=a₀.size
def ST.size(h:ST a₀ kd lt rs q st):(arrOf st).size=a₀.size:=by have:=h.pm.length_eq;simpa using this
end
end Srt
namespace L2
namespace M
open PySem PySem.Spec PyProof.Rows
mutual
def eR:MV->Bool
 |.int _=>true
 |.str _=>true
 |.tup ds=>YY ds
 |_=>false
def YY:List MV->Bool
 |[]=>true
 |d::ds=>eR d&&YY ds
end
section
variable{X:Cx}{α:B9}{H:Hp}{pins:L1}{σ:St}{s:Ĵ}
mutual
theorem Fp(I:↑1): ∀{d b:MV}{v:V},eR d=true->eR b=true->Den X.K α H d v->Den X.K α H b v->d=b
 |.int i,b,v,_,h',q,q'=>by
  cases jS q
  cases b with
  |int j=>cases jS q';rfl
  |str x=>cases kM q'
  |tup ds=>obtain⟨a,k,e,_⟩:=jD q';cases e
  |_=>simp[eR]at h'
 |.str x,b,v,_,h',q,q'=>by
  have e:=kM q
  cases b with
  |int j=>rw[jS q']at e;cases e
  |str y=>rw[kM q']at e;injection e with e;rw[HL e]
  |tup ds=>obtain⟨a,k,f,_⟩:=jD q';rw[f]at e;cases e
  |_=>simp[eR]at h'
 |.tup ds,b,v,h,h',q,q'=>by
  obtain⟨a,k,e,t,l⟩:=jD q
  cases b with
  |int j=>rw[jS q']at e;cases e
  |str y=>rw[kM q']at e;cases e
  |tup es=>
   obtain⟨p,o,f,n,m⟩:=jD q';rw[e]at f;cases f;have:=I.tuple_inj t n;subst this;rw[YZ I (by unfold eR at h;exact h) (by unfold eR at h';exact h') l m]
  |_=>simp[eR]at h'
theorem YZ(I:↑1): ∀{ds es:R0}{b:List V},YY ds=true->YY es=true->DenL X.K α H ds b->DenL X.K α H es b->ds=es
 |[],[],_,_,_,_,_=>rfl
 |[],e::es,_,_,_,q,q'=>by obtain⟨v,r,e,_⟩:=q'.uncons;rw[q.isnil]at e;cases e
 |d::ds,[],_,_,_,q,q'=>by obtain⟨v,r,e,_⟩:=q.uncons;rw[q'.isnil]at e;cases e
 |d::ds,e::es,_,h,h',q,q'=>by obtain⟨v,r,rfl,a,l⟩:=q.uncons;obtain⟨k,m,i,j,f⟩:=q'.uncons;cases i;unfold YY at h h';rw[aE]at h h';rw[Fp I h.1 h'.1 a j,YZ I h.2 h'.2 l f]
end
inductive KindD:Bool->MV->Prop
 |t (es r):KindD true (.tup (.tup es::r))
 |e:KindD false (.tup [])
end
structure OrdD(S:Sto)(ks:R0):Prop where
 any: ∀a,a∈ks-> ∀b,b∈ks-> ∃t,Kj S zR a b=some t
 tr: ∀a,a∈ks-> ∀b,b∈ks-> ∀c,c∈ks->Kj S zR b a=some false->Kj S zR c b=some false->Kj S zR c a=some false
 as: ∀a,a∈ks-> ∀b,b∈ks->Kj S zR a b=some true->Kj S zR b a=some false
section
def JT(K:P0)(α:B9)(H:Hp)(a:R0)(u:ĵ):MV:=
 open Classical in if h: ∃d v,d∈a/\Den K α H d v/\RelV v u then Classical.choose h else a.headD .non
def Uh{K:P0}(a:kds≠[])(u):JT K α H kds u∈kds:=by
 unfold JT;split
 .rename_i h;obtain⟨v,b,_⟩:=ò h;exact b
 .match kds,a with
  |x::l,_=>exact mF0
def Nr{K:P0}(h: ∃d v,d∈kds/\Den K α H d v/\RelV v u): ∃v,Den K α H (JT K α H kds u) v/\RelV v u:=by unfold JT;rw[dif_pos h];obtain⟨v,_,b,a⟩:=ò h;exact⟨v,b,a⟩
def Nt(I:↑1)(b: ∀d,d∈kds->eR d=true)(n:DenL X.K α H kds kvs)(m:Vals kvs ks){i:Nat}(p:ks[i]? =some u)(k:kds[i]? =some a):
  JT X.K α H kds u=a:=by
 obtain⟨v,q,h⟩:=n.at k;obtain⟨w,e,r⟩:=m.get q;rw[p]at e;cases e;have f:=ô k;have ne:kds≠[]:=λz=>by rw[z]at f;cases f
 obtain⟨t,j,o⟩:=Nr ⟨a,v,f,h,r⟩;rw[o.inj r]at j;exact Fp I (b _ (Uh ne u)) (b a f) j h
end
structure SrtOk(Fd:List MV->Sto->R Er)(S:Sto)(ds kds:R0)(b:Bool):Prop where
 len:ds.length<128
 kl:kds.length=ds.length
 call: ∀(m:Nat) d kd,ds[m]? =some d->kds[m]? =some kd->yC 1 Fd [.val d] S=.ok (.val kd) S
 pu: ∀d,d∈kds->eR d=true
 kind: ∀d,d∈kds->KindD b d
 ord:OrdD S kds
open Classical in
def QX(S:Sto)(d:MV):List MV->Option Nat
 |[]=>none
 |x::xs=>(eqv S zR x d).bind λk=>if k=true then some 0 else(QX S d xs).map (· +1)
open Classical in
def SV(p:Er)(rs:List Er)(S:Sto):R Er:=match rs with
 |[.val d]=>match cJ S p with
  |some ds=>if∀x,x∈ds->eR x=true/\(eqv S zR x d).isSome=true then(match QX S d ds with |some j=>.ok (.val (.int (j:Nat))) S|none=>.no)else .no
  |none=>.no
 |_=>.no
theorem SW: ∀{ds}{j},QX S d ds=some j->(∃x,ds[j]? =some x/\eqv S zR x d=some true)/\ ∀m x,m<j->ds[m]? =some x->eqv S zR x d=some false
 |[],j,h=>by cases h
 |x::xs,j,h=>by
  unfold QX at h
  cases z:eqv S zR x d with
  |none=>rw[z]at h;cases h
  |some k=>
   rw[z]at h;have h:(if k=true then some 0 else(QX S d xs).map _)=some j:=h
   cases k with
   |true=>
    cases h;exact⟨⟨x,rfl,z⟩,λm y b _=>by lia⟩
   |false=>
    cases a:QX S d xs with
    |none=>rw[a]at h;cases h
    |some i=>
     rw[a]at h;cases h;obtain⟨⟨y,e,f⟩,n⟩:=SW a;refine⟨⟨y,by simpa using e,f⟩,λm w b hw=>?_⟩
     cases m with
     |zero=>simp at hw;subst hw;exact z
     |succ m=>exact n m w (Nat.lt_of_succ_lt_succ b) (by simpa using hw)
section
variable{pos apos:Pos}
theorem Ui(hu:X.A.units+64<cLine):Wp X "list.index" (λx xs H Q=> ∃α S l M b d y j,x=.ref l/\xs=[y]/\Wd X.g α S H/\SqL X.K H l M/\DenL X.K α H b M/\Den X.K α H d y/\(∀x,x∈b->eR x=true/\(eqv S zR x d).isSome=true)/\QX S d b=some j/\Q (.int  j ) H):=by
 intro pins s σ H x xs v us Q I rx rs h;obtain⟨α,S,l,M,b,d,y,j,rfl,rfl,wd,sq,C,dd,P,hj,q⟩:=h;cases rx;obtain⟨u,rfl,ru⟩:=rs.one;obtain⟨a,p,⟨o,n,T,W,L,hd⟩,hz⟩:=I.list sq;obtain⟨U,aa,af,ab⟩:=o;subst W hd L;obtain⟨⟨x,B,Y⟩,E⟩:=SW hj;have ae:=ý;have r:j<a.length:=by rw[<-p.length,C.length];exact(gS.mp B).1
 have J:=λx B=>(P x B).1
 have i: ∀m (f:m<a.length), ∃x,b[m]? =some x/\JT X.K α H b a[m]=x:=λm f=>by
  have e:m<b.length:=by rw[<-C.length,p.length];exact f
  exact⟨b[m],gE e,Nt I J C p (gE f) (gE e)⟩
 refine ħ PySem.F.slot_list_index ⟨_,T,rfl⟩ PySem.F.entry_list_index (PySem.F.args_list_index_2 _ _)
  (SeqAt.list_indexAt l a.toArray n _ _ u (λw=>(eqv S zR (JT X.K α H b w) d).getD false) j (by simpa using r) (by have:=p.length;lia) ?_ ?_) ⟨T,λw hw=>?_,?_⟩
 .obtain⟨t,k,z⟩:=i j r;show(eqv S zR (JT X.K α H b a[j]) d).getD false=true;rw[z];rw[B]at k;cases k;rw[Y];rfl
 .intro m f G;have e:=by simpa using f
  obtain⟨t,k,z⟩:=i m e;show(eqv S zR (JT X.K α H b a[m]) d).getD false=false;rw[z,E m t G k];rfl
 .have D:=by simpa using hw
  obtain⟨m,f,rfl⟩:=List.mem_iff_getElem.mp D;obtain⟨t,k,z⟩:=i m f;obtain⟨xv,Z,h4⟩:=C.at k;obtain⟨w',O,h6⟩:=p.get Z;rw[gE f]at O;cases O;have hs:=(P t (ô k)).2;obtain⟨kk,N⟩:=č.mp hs;show SeqAt.EqAt _ _ _ _ _;rw[z,N];exact JM I wd zR X.A.in1 t d xv y _ _ kk (by unfold zR;show X.A.units+1+40<cLine;lia) h4 dd h6 ru N
 .exact⟨.int _,H,I.tok _,⟨_,rfl⟩,q⟩
def Uj:YO X W (λx xs H Q=> ∃α S l e b d y j,x=.ref l/\xs=[y]/\Wd X.g α S H/\SqL X.K H l e/\DenL X.K α H b e/\Den X.K α H d y/\(∀x,x∈b->eR x=true/\(eqv S zR x d).isSome=true)/\QX S d b=some j/\Q (.int  j ) H) SV:=by
 intro p t x e α S u H Q r wd q i h a
 replace a:=a.shift q
 unfold SV at a;split at a
 .split at a
  .rename_i b f;split at a
   .rename_i o;split at a
    .rename_i j s;obtain⟨v,rfl,k⟩:=FK h;obtain⟨l,xs,rfl,n,m⟩:=uQ rfl wd f i;exact⟨α,S,l,xs,b,_,v,j,rfl,rfl,wd,n,m,k,o,s,Post.val a wd (xD _)⟩
    .exact a.elim
   .exact a.elim
  .exact a.elim
 .exact a.elim
def Uk(i:X.A.units+64<cLine)(m:yF X W a f)(j:IW X W (e::es) af)
  (hbase:attributeBase a "index" X.env (eval a X.env)=eval a X.env:=by rfl)
  (hfew:((backTo pos (starEach (e::es) X.env)).all (λx=>!x.1)&&(backToKw pos (keywordEach [] X.env)).all (λx=>x.1.isSome)
   &&decide ↑7)=true:=by rfl)
  (hline:(apos.endLine==pos.line)=true:=by rfl) (hs:q8 X e es:=by rfl) (hplain:q9 X pos es:=by rfl):
  yF X W (.Call (.Attribute a "index" apos) (e::es) [] pos) (λd S=>(f d S).bind λp b=>if eQ p b=true then(af d b).bind λk h=>SV p k h else .no):=
 vI PySem.F.plainAttrs_list PySem.F.slot_list_index PySem.F.type_list_index (Ui i) Uj Ci m j hbase hfew hline hs hplain
end
section
variable{a:Expr}{e:Expr}
def Itq(K:P0)(k:Bool)(a:Addr):It:=if k=true then zAB K a else zAC K a
def iSeq(K:P0)(d:TE):TI:=λσ H R=>d σ H λx b=> ∃k a,x=.ref a/\(∃xs,QW k K b a xs)/\R (Itq K k a) b
def C8(u:PE X l tl):PI X tg l (iSeq X.K tl):=by
 intro pins s σ H R I h;refine kL (u pins s σ H _ I h) λv s1 ⟨x,f,I1,n,r⟩=>?_;obtain⟨k,a,e,⟨xs,j⟩,q⟩:=r;subst e;cases n
 cases k with
 |true=>
  obtain⟨d,m,p,t⟩:=I1.list (show SqL X.K f a xs from j);refine wpAny_pyIter_list p.isList ?_;refine⟨s1.heap.objs.size,[s1.heap.objs.size],_,_,f,rfl,I1.kept (t':=s1.toks) λb o e=>hP0 _ e,RN a _,⟨_,ä _ rfl,rfl,rfl⟩,λb i=>?_,q⟩;have e:b=s1.heap.objs.size:=by simpa using i
  subst e;exact I1.fpOk (à _) (I1.hok.fresh (à _))
 |false=>
  obtain⟨d,m,p,t⟩:=I1.tuple (show SqT X.K f a xs from j);refine wpAny_pyIter_tuple (show s1.heap.IsTuple a d.toArray from p) ?_;refine⟨s1.heap.objs.size,[s1.heap.objs.size],_,_,f,rfl,I1.kept (t':=s1.toks) λb o e=>hP0 _ e,NO a _,⟨_,ä _ rfl,rfl,rfl⟩,λb i=>?_,q⟩;have e:b=s1.heap.objs.size:=by simpa using i
  subst e;exact I1.fpOk (à _) (I1.hok.fresh (à _))
def itQ(r:Er)(S:Sto):R Wk:=match srcOf S r with
 |some q=>.ok ⟨q.ds,q.gs⟩ S
 |none=>.no
def Nu(v:yF X W iter f):PIm X W tg iter (λA S=>(f A S).bind itQ):=by
 obtain⟨t,v,k⟩:=v;refine⟨_,C8 v,λα A S σ H Rc wd U q=>k α A S σ H _ wd U (q.bind λu p P D Z e Q L Y d=>?_)⟩
 replace d:=d.shift Q
 unfold itQ at d;split at d
 .rename_i q M;obtain⟨n,P1,rfl,p1,m⟩:=OQ L M Y.1;have O:=m.get _ _ _ p1;refine⟨q.k,n,rfl,⟨_,O.choose_spec.1⟩,d.here (u:=Itq X.K q.k n) L ⟨λα S H=>P1 α S H,?_,p1,λD P Z b B z h x w hs=>m.stays _ _ _ _ _ _ h x w hs,m.st _ _ _ p1⟩⟩;intro i b B z h I;obtain⟨E,G,J⟩:=m.get _ _ _ h;obtain⟨N,F,qg⟩:=q
  cases N with
  |true=>
   obtain⟨j,s⟩:=HR (X:=X) (a:=n) (ds:=F) i b B z ⟨E,G,J⟩ I;refine⟨λhi=>⟨(j hi).1,λx H' y=>?_⟩,s⟩;obtain⟨C,r,T,o⟩:=(j hi).2 x H' y;obtain⟨rfl,_⟩:=y;exact⟨C,r,h,o⟩
  |false=>
   obtain⟨j,s⟩:=Ep (X:=X) (a:=n) (ds:=F) i b B z ⟨E,G,J⟩ I;refine⟨λhi=>⟨(j hi).1,λx H' y=>?_⟩,s⟩;obtain⟨C,r,T,o⟩:=(j hi).2 x H' y;obtain⟨rfl,_⟩:=y;exact⟨C,r,h,o⟩
 .exact d.elim
def OU:List MV->Option (List String)
 |[]=>some []
 |.typ n::r=>if known n=true then(OU r).map (n::·)else none
 |_=>none
def ZA:List Er->Sto->R Er
 |[r,.val (.tup ts)],S=>match pK S r with
  |some t=>match OU ts with
   |some ns=>.ok (.val (.bl (ns.any (VA t)))) S
   |none=>.no
  |none=>.no
 |_,_=>.no
end
section
variable{X:Cx}{W:XW}{a o i:Expr}{pins:L1}{σ:St}{H:Hp}{s:Ĵ}{α:B9}
def Kinds(t:String):Prop:=t="NoneType"\/t="bool"\/t="int"\/t="str"\/t="tuple"\/t="list"
def C9(I:↑1)(wd:Wd X.g α S H)(d:DenX X.K α H r x)(e:RelV x u)(b:pK S r=some t):
  ∃k:Heap->Prop,PySem.W.KitX X.K u (.type t) k/\k s.heap/\u≠.builtin "__main__.__loader__#opaque"/\Kinds t:=by
 unfold pK at b;split at b
 .cases b;cases sG d;cases e;exact⟨_,PySem.W.kitx_none,True.intro,(λz=>nomatch z),.inl rfl⟩
 .cases b;cases uO d;cases e;exact⟨_,PySem.W.kitx_bool,True.intro,(λz=>nomatch z),.inr (.inl rfl)⟩
 .cases b;cases xT d;obtain⟨t,rfl⟩:=e;exact⟨_,PySem.W.kitx_int,True.intro,(λz=>nomatch z),.inr (.inr (.inl rfl))⟩
 .cases b;cases wA d;obtain⟨t,rfl⟩:=e;exact⟨_,PySem.W.kitx_str,True.intro,(λz=>nomatch z),.inr (.inr (.inr (.inl rfl)))⟩
 .cases b;obtain⟨a,m,rfl,f,l⟩:=nQ d;cases e;obtain⟨h,n,p1,_⟩:=I.tuple f;obtain⟨o,i,j,_⟩:=p1;exact⟨_,PySem.W.kitx_tuple,⟨o,i,j⟩,(λz=>nomatch z),.inr (.inr (.inr (.inr (.inl rfl))))⟩
 .cases b
 .cases b
 .cases z:cJ S r with
  |none=>rw[z]at b;cases b
  |some ds=>
   rw[z]at b;cases b;obtain⟨a,m,rfl,f,l⟩:=uQ rfl wd z d;cases e;obtain⟨h,n,p1,_⟩:=I.list f;obtain⟨o,i,j,_⟩:=p1.isList;exact⟨_,PySem.W.kitx_list,⟨o,i,j⟩,(λz=>nomatch z),.inr (.inr (.inr (.inr (.inr rfl))))⟩
theorem Fq(e:Kinds t): ∀{ts}{ns}{b}{a},OU ts=some ns->DenL X.K α H ts b->Vals b a->PySem.W.kitAny X.K (.type t) a=some (ns.any (VA t))
 |[],ns,b,a,hn,d,r=>by cases hn;rw[d.isnil]at r;cases r;rfl
 |x::ts,ns,b,a,hn,d,r=>by
  obtain⟨v,i,rfl,f,l⟩:=d.uncons
  cases x with
  |typ n=>
   unfold OU at hn;split at hn
   .rename_i h
    cases z:OU ts with
    |none=>rw[z]at hn;cases hn
    |some ns'=>
     rw[z]at hn;cases hn;cases eV f
     cases r with
     |cons r1 r2=>
      cases r1;rw[PySem.W.kitAny,eY X.K e h,List.any_cons]
      cases j:VA t n with
      |true=>rfl
      |false=>exact Fq e z l r2
   .cases hn
  |_=>cases hn
def Jg:CallR X (.builtin "isinstance") (λxs H Q=> ∃α S r x y t b e,xs=[x,y]/\Wd X.g α S H/\DenX X.K α H r x/\DenX X.K α H (.val (.tup b)) y/\pK S r=some t/\OU b=some e/\Q (.bl (e.any (VA t))) H):=by intro pins s σ H xs J Q I C h;obtain⟨α,S,r,x,y,t,b,e,rfl,wd,d,F,k,w,q⟩:=h;obtain⟨u,M,rfl,p,f⟩:=vals2 C;obtain⟨a,N,rfl,i,l⟩:=nQ F;cases f;obtain⟨j,G,p1,_⟩:=I.tuple i;obtain⟨L,E,v,m,B⟩:=C9 I wd d p k;obtain⟨⟨O,T,z,os⟩,A,D,n,o⟩:=p1;cases D;cases o;exact PySem.W.kia_tup E I.kIn v A (Fq B w l G) m λP=>⟨.bl _,H,I.tok _,rfl,q⟩
def Ul:AU X W (λxs H Q=> ∃α S r x y t e b,xs=[x,y]/\Wd X.g α S H/\DenX X.K α H r x/\DenX X.K α H (.val (.tup e)) y/\pK S r=some t/\OU e=some b/\Q (.bl (b.any (VA t))) H) ZA:=by
 intro k m α S H Q wd d a;unfold ZA at a;split at a
 .split at a
  .rename_i t j;split at a
   .rename_i b h;obtain⟨v,u,rfl,f,i⟩:=Xb d;exact⟨α,S,_,v,u,t,_,b,rfl,wd,f,i,j,h,Post.val a wd (wN _)⟩
   .exact a.elim
  .exact a.elim
 .exact a.elim
noncomputable def ZC(a:List (Key×V))(k:Key)(v:V):List (Key×V):=if(a.any λb=>decide (b.1=k))=true then a.map (λb=>if b.1=k then(b.1,v)else b)else a++[(k,v)]
def Nv(kvs)(k)(v):(ZC kvs k v).length<=kvs.length+1:=by
 unfold ZC;split
 .rw[lM0];exact le_succ _
 .rw[lA];exact à _
def E1(r:KV kvs vs)(k:Key):(kvs.any λa=>decide (a.1=k))=vs.any λa=>decide (a.1=k):=by
 induction r with
 |nil=>rfl
 |cons h t ih=>rw[List.any_cons,List.any_cons,ih,h.1]
def Um(r:KV kvs vs)(k:Key)(b:RelV y u):KV (kvs.map λa=>if a.1=k then(a.1,y)else a) (vs.map λa=>if a.1=k then(a.1,u)else a):=by
 induction r with
 |nil=>exact .nil
 |@cons p q ps qs h t ih=>
  rw[è,è];refine .cons ?_ ih;by_cases e:p.1=k
  .rw[iP e,iP (h.1.symm.trans e)];exact⟨h.1,b⟩
  .rw[iN0 e,iN0 λz=>e (h.1.trans z)];exact h
def Uo(r:KV kvs vs){q:Key×ĵ}(h:p.1=q.1/\RelV p.2 q.2):KV (kvs++[p]) (vs++[q]):=by
 induction r with
 |nil=>exact .cons h .nil
 |cons h' t ih=>exact .cons h' ih
def E3(r:KV kvs vs)(k)(a:RelV y u):KV (ZC kvs k y) (stored vs k u):=by
 unfold ZC stored;rw[E1 r k];by_cases e:(vs.any λb=>decide (b.1=k))=true
 .rw[iP e,iP e];exact Um r k a
 .rw[iN0 e,iN0 e];exact Uo r ⟨rfl,a⟩
noncomputable def lH:MV->Bool
 |.str _=>true
 |_=>false
def Fs{a b:Key}(h:KeyD k a)(h':KeyD k b):a=b:=by
 cases k with
 |int i=>exact Eq.trans h h'.symm
 |str x=>exact Eq.trans h h'.symm
 |_=>exact False.elim h
def ZD{a:Key}(h:KeyD k a)(h':KeyD k' a):k=k':=by
 cases k with
 |int i=>
  have e:=h;subst e
  cases k' with
  |int j=>have b:(Sum.inl i:Key)=.inl j:=h';cases b;rfl
  |str y=>have b:(Sum.inl i:Key)=.inr _:=h';cases b
  |_=>exact False.elim h'
 |str x=>
  have e:=h;subst e
  cases k' with
  |int j=>have b:(Sum.inr _:Key)=.inl j:=h';cases b
  |str y=>
   have b:=h';injection b with b
   rw[HL b]
  |_=>exact False.elim h'
 |_=>exact False.elim h
theorem ZE: ∀{b}{d}{k}{k'},DenK X.K α H b d->KeyD k k'->(d.any λe=>decide (e.1=k'))=(look b k).isSome
 |_,_,k,k',.nil,hk=>rfl
 |_,_,k,k',.cons (k:=c) (k':=c') hc a l,hk=>by
  rw[Je,List.any_cons];by_cases h:c=k
  .subst h;rw[iP rfl,dT0 (Fs hc hk)];rfl
  .have f: ¬c'=k':=λz=>h (ZD hc (z.symm▸hk));rw[iN0 h,dF0 f];exact ZE l hk
theorem OV: ∀{b}{f}{k d}{k'}{v},DenK X.K α H b f->KeyD k k'->Den X.K α H d v->DenK X.K α H (b.map λp=>if p.1=k then(p.1,d)else p) (f.map λe=>if e.1=k' then(e.1,v)else e)
 |_,_,k,d,k',v,.nil,hk,hd=>.nil
 |_,_,k,d,k',v,.cons (k:=c) (k':=c') hc a l,hk,hd=>by
  rw[è,è];by_cases h:c=k
  .subst h;rw[iP rfl,iP (Fs hc hk)];exact .cons hc hd (OV l hk hd)
  .have i: ¬c'=k':=λz=>h (ZD hc (z.symm▸hk));rw[iN0 h,iN0 i];exact .cons hc a (OV l hk hd)
theorem DenK.append: ∀{d b}{xs e},DenK X.K α H d xs->DenK X.K α H b e->DenK X.K α H (d++b) (xs++e)
 |_,_,_,_,.nil,h=>h
 |_,_,_,_,.cons hk a l,h=>.cons hk a (DenK.append l h)
theorem DenK.length: ∀{a}{xs},DenK X.K α H a xs->xs.length=a.length
 |_,_,.nil=>rfl
 |_,_,.cons _ _ l=>by rw[lC0,lC0,DenK.length l]
def Nx(l:DenK X.K α H kvs ks)(a:KeyD k k')(b:Den X.K α H d v):DenK X.K α H (putK kvs k d) (ZC ks k' v):=by
 unfold putK ZC;rw[ZE l a];by_cases h:(look kvs k).isSome=true
 .rw[iP h,iP h];exact OV l a b
 .rw[iN0 h,iN0 h];exact l.append (.cons a b .nil)
def DK(X:Cx)(H:Hp)(d:Addr)(a:List (Key×V)):Prop:=H d=some (.dK a)\/(a=[]/\H d=some (DN X.prog X.w d []))
def DK.nf(h:DK X H d ks): ∀a u,H d≠some (.frz a u):=h.elim (λz=>O4 z) λz=>by first |exact O4 z.2|exact z.elim
def W9(i:ObD X.g α H d (.dic kvs))(f:kvs.all (λp=>lH p.1)=true): ∃b,DK X H d b/\DenK X.K α H kvs b:=by
 rcases i with⟨b,h,l⟩|⟨xs,h,l⟩
 .exact⟨b,.inl h,l⟩
 .cases l with
  |nil=>exact⟨[],.inr ⟨rfl,h⟩,.nil⟩
  |@cons k nk a d v u fs xs hn e ha hd r l=>
   rw[Ě,aE]at f
   cases k with
   |str x=>exact absurd (kM ha) (λz=>nomatch z)
   |_=>exact absurd f.1 xF0
def Ft(I:↑1)(h:DK X H d ks):ks.length<=sizeLine/\(d==sysModules)=false/\ ∃f,KV ks f/\s.heap.DictOf (dB X.prog X.w) d f:=by
 rcases h with h|⟨rfl,h⟩
 .exact(I.hok d _ h)
 .obtain⟨⟨p,hs,o,es,j,n,m,k,i,q⟩,_⟩:=(I.hok d _ h)
  have a:=i;refine⟨zero_le _,hs,[],.nil,o,es,j,n,m,k,λe b=>?_,by rw[a];exact .nil,List.nodup_nil⟩;rw[<-Array.mem_toList_iff,a]at b;exact absurd b (by simp)
def X1(X:Cx):TSet:=λo i v H Q=> ∃(a:List (Key×V))(d:Addr)(x:Db),o=.ref d/\i=.str (yZ x)/\DK X H d a/\a.length<sizeLine/\Q (jL H d (.dK (ZC a (.inr (yZ x)) v)))
theorem Jh:Ym X (X1 X):=by
 intro pins s σ H o i v N M u Q I r m k h;obtain⟨A,d,x,rfl,rfl,j,G,q⟩:=h;cases r;obtain⟨t,rfl⟩:=m;obtain⟨z,y,J,a,C⟩:=Ft I j;have K:=Paired.length a;have F:=Nv A (.inr (yZ x)) v;refine wpAny_setItem_pairs (BN X.prog X.w _ t) C λh' e f=>⟨_,?_,q⟩
 have D:O2 (H d):=by rcases j with z|⟨_,z⟩<;>rw[z]<;>exact trivial
 have p: ∃q,h'.get? d=some q:=let ⟨q,_,_,B,_⟩:=e;⟨q,B⟩;exact I.write D (.inl rfl) (λb L E n=>(f.2 b E).trans n) p ⟨by lia,y,_,E3 a _ k,e⟩
def LM(S:Sto):Er->Option (Nat×List (MV×MV))
 |.val (.loc l)=>match S[l]? with
  |some (.dic kvs)=>if kvs.all (λp=>lH p.1)=true then some (l,kvs)else none
  |_=>none
 |_=>none
def Ny(wd:Wd X.g α S H)(e:LM S r=some (l,kvs))(d:DenX X.K α H r x):
  ∃c a,x=.ref c/\α[l]? =some c/\S[l]? =some (.dic kvs)/\DK X H c a/\DenK X.K α H kvs a/\kvs.all (λp=>lH p.1)=true:=by
 unfold LM at e;split at e
 .rename_i n;obtain⟨c,rfl,h⟩:=pF d;split at e
  .rename_i a f;split at e
   .rename_i b;obtain⟨rfl,rfl⟩:=Prod.mk.inj (å e);obtain⟨xs,i,l⟩:=W9 (wd.obj _ c _ h f) b;exact⟨c,xs,rfl,h,f,i,l,b⟩
   .cases e
  .cases e
 .cases e
def ZF(p q:Er)(d:MV)(ρ:Rho)(S:Sto):R Rho:=match q with
 |.val (.str x)=>match LM S p with
  |some (l,kvs)=>if kvs.length<1000000 then .ok ρ (S.set l (.dic (putK kvs (.str x) d)))else .no
  |none=>.no
 |_=>.no
def Up(E:yF X W o f)(hi:yF X W i g)
  (ha: ∀v,assign (.Subscript o i pos) X.env v=(do
   let m <-holding [v] (eval o X.env);let A <-holding [v,m] (eval i X.env)
   standAt pos
   holding [v,m,A] (setItem m A v)
   release [v,m,A] []):=by intro _;rfl):Zr X W (.Subscript o i pos) (λd b S=>(f b S).bind λp s=>(g b s).bind λq J=>ZF p q d b J):=by
 obtain⟨to,E,T⟩:=E;obtain⟨ti,hi,Y⟩:=hi;refine⟨_,Ku E hi Jh ha,λα b S σ H d v Q wd t Z q=>T α b S σ H _ wd t (q.bind λu p s D H1 e1 h O U P=>Y D b s σ H1 _ O (t.ext h) ((P.shift h).bind λu2 p2 J r H2 e2 j C M a=>?_))⟩
 replace a:=a.shift j
 have B:=DenX.ext j U.1;have y:=(Z.ext h).ext j;unfold ZF at a;split at a
 .rename_i x;split at a
  .rename_i l N e;split at a
   .rename_i L;obtain⟨c,G,rfl,F,hS,z,I,K⟩:=Ny C e B;cases wA M.1;refine⟨G,c,x,rfl,rfl,z,?_,?_⟩
    .rw[I.length];exact æ L (fits (à _))
    .have w:=C.writex F z.nf (o:=.dK (ZC G (.inr (yZ x)) v));have n:=((t.ext h).ext j).ext w;exact a σ r _ w (C.write F z.nf (.inl ⟨_,zV,(Nx (k:=.str x) I rfl y).ex0 w.toEx0⟩)) n
   .exact a.elim
  .exact a.elim
 .exact a.elim
theorem Cp:CallR X (.type "list") (λxs H Q=> ∃d n,xs=[.ref d]/\DK X H d n/\X.calm=true/\ ∀l,H l=none->Q (.ref l) (jL H l (.lst (n.map λp=>kV p.1)))):=by
 intro pins s σ H xs f Q I r h;obtain⟨d,n,rfl,O,J,q⟩:=h;obtain⟨u,rfl,S⟩:=vals1 r;cases S;obtain⟨z,L,y,o,P⟩:=Ft I O;obtain⟨U,C⟩:=P.dictAt;have A:=Paired.length o;refine PySem.W.kdl_call (PySem.W.kdl_dict L) (I.ok.hd J) C #[0] λh' Y B K G T m=>?_
 have F:=by
  have D: ∀{n:List _}{y:List _}{f:A0},KV n y->f.length=y.length->(∀(j:Nat)(v:ĵ),f[j]? =some v-> ∃(k:Key)(x:ĵ),y[j]? =some (k,x)/\(dB X.prog X.w).is k v=true)->Vals (n.map λp=>kV p.1) f:=by
   intro n y f M
   induction M generalizing f with
   |nil=>intro A _;cases f with
    |nil=>exact .nil
    |cons a b=>simp at A
   |@cons p q ps qs h t ih=>
    intro A E
    cases f with
    |nil=>simp at A
    |cons a b=>
     obtain⟨k,x,e,hi⟩:=E 0 a rfl;simp only[List.getElem?_cons_zero,Option.some.injEq]at e;subst e;rw[è];refine .cons ?_ (ih (by simpa using A) λj v N=>by simpa using E (j+1) v (by simpa using N));rw[h.1];rcases xK hi with⟨i,t,e1,e2⟩|⟨i,t,e1,e2⟩
     .subst e2;rw[show k=.inl i from e1];exact⟨t,rfl⟩
     .subst e2;rw[show k=.inr i from e1];exact⟨t,rfl⟩
  exact D o (by rw[Đ];exact m.1) λj v e=>m.2 j v (by rw[<-Array.getElem?_toList];exact e)
 refine⟨.ref ↑0,_,I.laid G (à _) (show ObjOk X.prog X.w _ h' _ (.lst _)from⟨by rw[lM0];exact z,B.toList,K,F,?_⟩),rfl,q _ (I.hok.fresh (à _))⟩;rw[Array.toArray_toList];exact T
def OW:List Er->Sto->R Er
 |[r],S=>match LM S r with |some (_,kvs)=>.ok (.new (kvs.map (·.1))) S|none=>.no
 |_,_=>.no
theorem SX: ∀{b}{d},DenK X.K α H b d->DenL X.K α H (b.map (·.1)) (d.map λp=>kV p.1)
 |_,_,.nil=>xB
 |_,_,.cons (k:=c) (k':=c') hc a l=>by
  refine yW ?_ (SX l)
  cases c with
  |int i=>rw[show c'=.inl i from hc];exact xD i
  |str x=>rw[show c'=.inr _ from hc];exact gT x
  |_=>exact False.elim hc
def Nz(j:X.calm=true):AU X W (λxs H Q=> ∃d b,xs=[.ref d]/\DK X H d b/\X.calm=true/\ ∀l,H l=none->Q (.ref l) (jL H l (.lst (b.map λp=>kV p.1)))) OW:=by
 intro o s α S H Q wd d a;unfold OW at a;split at a
 .split at a
  .rename_i n k e;obtain⟨v,rfl,f⟩:=rN d;obtain⟨c,b,rfl,q,r,i,h,_⟩:=Ny wd e f;exact⟨c,b,rfl,i,j,λl m=>Post.newl a wd m (SX h)⟩
  .exact a.elim
 .exact a.elim
end
noncomputable def Oa(k:Key)(l:List Key):Bool:=l.any λj=>decide (j=k)
def uT(val:Nat->Key):Nat->List Key
 |0=>[]
 |i+1=>if Oa (val i) (uT val i)=true then uT val i else uT val i++[val i]
theorem JU(val)(i):uT val (i+1)=if Oa (val i) (uT val i)=true then uT val i else uT val i++[val i]:=rfl
theorem VG(val): ∀i,(uT val i).length<=i
 |0=>à _
 |i+1=>by
  have a:=VG val i;rw[JU];split
  .exact ç a (le_succ _)
  .rw[lA];exact Nat.succ_le_succ a
def Ob(val)(i)(k):Oa k (uT val (i+1))=(Oa k (uT val i) || decide (k=val i)):=by
 rw[JU];by_cases h:Oa (val i) (uT val i)=true
 .rw[iP h];by_cases e:k=val i
  .rw[e,h];rfl
  .rw[dF0 e,Bool.or_false]
 .rw[iN0 h];unfold Oa;rw[List.any_append,List.any_cons,List.any_nil,Bool.or_false];by_cases e:val i=k
  .rw[dT0 e,dT0 e.symm]
  .rw[dF0 e,dF0 λz=>e z.symm]
theorem Oc(val)(i):(uT val (i+1)).length=if Oa (val i) (uT val i)=true then(uT val i).length else(uT val i).length+1:=by
 rw[JU];split
 .rfl
 .rw[lA];rfl
abbrev KSet(P:Program)(w:World)(h:Heap)(D:Addr)(val:Nat->Key)(i:Nat):Prop:=h.SetOf (dB P w) D (λk=>Oa k (uT val i)) (uT val i).length
def KSet.move(x:KSet P w h D val i)(m: ∀o,h.get? D=some o->h'.get? D=some o):KSet P w h' D val i:=by obtain⟨o,es,a,t,b,r⟩:=x;exact⟨o,es,a,t,m o b,r⟩
def StrAt(val:Nat->Key)(i:Nat)(v:ĵ):Prop:=(∃x t,val i=.inr x/\v=.str x t)\/ ∃x t,val i=.inl x/\v=.int x t
def StrAt.is(h:StrAt val i v):(dB P w).is (val i) v=true/\v.scannable=true:=by
 rcases h with⟨x,t,e,rfl⟩|⟨x,t,e,rfl⟩<;>rw[e]
 .exact⟨BN P w x t,rfl⟩
 .exact⟨XY P w x t,rfl⟩
section
variable{R:Result->Ĵ->Prop}{St:Nat->Ĵ->Prop}
theorem JV(W:PySem.WalksS P w A.in1 I fp wr G n Pv St)(f:D∉fp)(hv: ∀i v,Pv i v->StrAt val i v)(d:n+1<scanBound):
  ∀ k i  s ,i+k=n->St i s->KSet P w s.heap D val i->
   (∀a,PySem.Moved (D::wr) G s a->KSet P w a.heap D val n->R (.ok (.ret .none)) a)->codeAny (model P w) A (.builtin "set.update.loop" ⟨[.ref D,.ref I],[]⟩) R s
 |0,i,s,hk,st,hs,q=>by have e:i=n:=hk;subst e;refine codeAny_builtin F.entry_set_update_loop ?_;rw[Around.under_plainId F.plain_set_update_loop _];show wpAny _ A.in1 _ _ _ s;refine wB (W.done s _ _ st λa m=>?_);exact wP (q a (m.mono λb d=>.tail _ d) (hs.move λo=>m.heap D o λz=>f (W.sub _ z)))
 |k+1,i,s,hk,st,hs,q=>by
  refine codeAny_builtin F.entry_set_update_loop ?_;rw[Around.under_plainId F.plain_set_update_loop _];show wpAny _ A.in1 _ _ _ s;refine wB (W.item i s _ _ #[0] st λv a E r m=>?_);obtain⟨hi,h⟩:=(hv i v E).is;have u:KSet P w a.heap D val i:=hs.move λo=>m.heap D o λz=>f (W.sub _ z);have le:=VG val i;show wpAny _ A.in1 _ _ _ a;refine wB (ĉ ?_);unfold setAdd;refine ĉ (wB ((dB P w).pyHash hi ?_));refine wpAny_setAddHashed_of hi h u #[0] λC y t=>?_;have j:KSet P w C D val (i+1):=by unfold KSet;rw[show(λk=>Oa k _)=(λk=>Oa k _ || decide _)from funext (Ob val i),Oc];exact t
  refine wP ⟨plainId_quiet F.plain_set_update_loop _,JV W f hv d k (i+1) _ #[0] (W.frame _ a _ _ r (le_succ _) λb d o e=>?_) j λH B p=>?_⟩
  .rw[y.2 b λz=>f (z▸d)];exact e
  .refine q H (PySem.Moved.trans W.gtrans ((m.mono λb d=>.tail _ d).then_heap (le_succ _) λb o d e=>?_) B) p;rw[y.2 b λz=>d (by rw[z];exact .head _)];exact e
end
section
noncomputable abbrev xC(a:Bool):Obj:={cls:=.type "set",dict:=none,data:=.set #[] 0 (.fresh 0 0 a)}
def Xd(d:h.get? a=some (xC led)):KSet P w h a val 0:=
 ⟨_,#[],0,_,d,⟨rfl,rfl,rfl⟩,rfl,λe b=>absurd b (by simp),λk=>⟨λz=>absurd z xF0,λ⟨e,b,_⟩=>absurd b (by simp)⟩,by unfold scanBound;decide,rfl,rfl⟩
end
section
def call_set_list(hh:A.handled=none)(M:s.heap.IsList l items)(hv: ∀ i  v ,items[i]? =some v->StrAt val i v)(hb:items.size+1<scanBound)
  (h: ∀ h'  p ,KSet P w h' ↑0 val items.size->(∀b o,s.heap.get? b=some o->h'.get? b=some o)->Q (.ref ↑0) {s with heap:=h',toks:=p}):
  wpAny (model P w) A (call (.type "set") [.ref l]) Q E s:=by
 obtain⟨c,tl,S⟩:=F.called_set.mro;have y:=F.called_set.made;have O:=F.called_set.sub;refine wpAny_call (codeAny_of_tree ?_);show wpAny _ _ (callAny (.type "set") _) _ _ _;refine wP ⟨Ĳ _ (by decide+kernel),codeAny_builtin F.entry_type_call ?_⟩;rw[Around.under_plain (weight_type_call_type "set" [.ref l] []) rfl];have h1:=F.called_set.notType;have h2:=F.called_set.canCreate;have af:=F.typeCall_set_1 (.ref l)
 repeat (any_goals (first |assumption|wp_step))
 refine đ (code_set_new_1 (.ref l) (E:=E) (Q₁:=λJ s1=> ∃a:Bool,J=.ref ↑0/\s1={s with heap:=s.heap.push (xC a)}) λa=>⟨a,rfl,rfl⟩) λr s1 t=>?_
 cases r with
 |error e=>exact t
 |ok fl=>
  cases fl with
  |ret J=>
   obtain⟨a,rfl,rfl⟩:=t;have N:(s.heap.push (xC a)).get? ↑0=some (xC a):=ä _ rfl;have hT:Shared.TypeIs {s with heap:=s.heap.push (xC a)} (.ref ↑0) "set":=⟨_,N,rfl⟩
   have aa:=F.called_set.init.lookup;have X:=F.called_set.init.bind (.ref ↑0)
   repeat (any_goals (first |assumption|wp_step))
   refine đ (ď (R:=wants (λr L=>r=.none/\ ∃h' p,L={s with heap:=h',toks:=p}/\KSet P w h' ↑0 val items.size/\ ∀b o,s.heap.get? b=some o->h'.get? b=some o) E)
    F.called_set.init.plain F.entry_set_init (check_set_init_1 hT ?_)) λr2 L f=>?_
   .have j:(s.heap.push (xC a)).IsList l items:=M.push _;obtain⟨⟨oc,od,ae,os⟩,n,B,nl,C⟩:=M;cases B;cases C;have U:(s.heap.push (xC a)).get? l=some {cls:=.type "list",dict:=od,data:=.seq items nl,slots:=os}:=hP0 _ n;have K:=PySem.F.sub_list_set;have T:=PySem.F.sub_list_frozenset;have ab:(Value.type "list"==Value.type "dict")=false:=by decide
    have lt:l<s.heap.objs.size:=ã n;unfold Builtin.«set.__init__» noKeywords Builtin.Frozenset.updateFrom;generalize q:pyIter=PI
    wp_walk
    subst q;refine wpAny_pyIter_list j ?_;refine wB (wpAny_runValue ?_);have h3:A.in1.in1.in1.handled=none:=by simp[hh]
    have I:l<(s.heap.push (xC a)).objs.size:=by rw[ù];exact Nat.lt_succ_of_lt lt
    have out:↑0∉[(s.heap.push (xC a)).objs.size,l]:=by
     rw[ù];intro z;rcases mC.mp z with z|z
     .exact absurd z (é (Ĝ _))
     .exact absurd (mS0.mp z) (û lt)
    refine JV ((Walks.list h3 _ l (é I) items).toS) (D:=↑0) (val:=val) out hv hb items.size 0 _ (Nat.zero_add _) ⟨⟨_,ä _ rfl,rfl,rfl⟩,j.push _⟩ ?hS0 ?hR
    case hS0=>
     have gg:((s.heap.push (xC a)).push {cls:=.type "list_iterator",data:=.fields #[.ref l,.int 0 0]}).get? ↑0=some (xC a):=hP0 _ N;exact Xd gg
    case hR=>
     intro Z m d;obtain⟨h',g',d',G,H⟩:=Z;have W:g'=s.gens:=m.gens;have e2:d'=s.drawn:=m.drawn;have Y:H=s.os:=m.os;subst W;subst e2;subst Y;show wpAny _ _ _ _ _ _;refine wP ?_;show wpAny _ _ (ret Value.none) _ _ _;refine wP ⟨rfl,h',G,rfl,d,λb o e=>?_⟩;have k:=ã e;refine m.heap b o (λz=>?_) (hP0 _ (hP0 _ e));rcases mC.mp z with z|z
     .exact absurd z (é k)
     .rw[ù]at z;exact absurd (mS0.mp z) (é (Nat.lt_succ_of_lt k))
   .cases r2 with
    |error e=>exact f
    |ok fl2=>
     cases fl2 with
     |ret r=>
      obtain⟨rfl,h',p,rfl,d,u⟩:=f
      repeat (any_goals (first |assumption|wp_step))
      exact h _ _ d u
     |_=>exact f.elim
  |_=>exact t.elim
end
section
def OX(hh:A.handled=none)(M:s.heap.IsTuple l items)(hv: ∀ i  v ,items[i]? =some v->StrAt val i v)(hb:items.size+1<scanBound)
  (h: ∀ h'  p ,KSet P w h' ↑0 val items.size->(∀b o,s.heap.get? b=some o->h'.get? b=some o)->Q (.ref ↑0) {s with heap:=h',toks:=p}):
  wpAny (model P w) A (call (.type "set") [.ref l]) Q E s:=by
 obtain⟨c,tl,S⟩:=F.called_set.mro;have y:=F.called_set.made;have O:=F.called_set.sub;refine wpAny_call (codeAny_of_tree ?_);show wpAny _ _ (callAny (.type "set") _) _ _ _;refine wP ⟨Ĳ _ (by decide+kernel),codeAny_builtin F.entry_type_call ?_⟩;rw[Around.under_plain (weight_type_call_type "set" [.ref l] []) rfl];have h1:=F.called_set.notType;have h2:=F.called_set.canCreate;have af:=F.typeCall_set_1 (.ref l)
 repeat (any_goals (first |assumption|wp_step))
 refine đ (code_set_new_1 (.ref l) (E:=E) (Q₁:=λJ s1=> ∃a:Bool,J=.ref ↑0/\s1={s with heap:=s.heap.push (xC a)}) λa=>⟨a,rfl,rfl⟩) λr s1 t=>?_
 cases r with
 |error e=>exact t
 |ok fl=>
  cases fl with
  |ret J=>
   obtain⟨a,rfl,rfl⟩:=t;have N:(s.heap.push (xC a)).get? ↑0=some (xC a):=ä _ rfl;have hT:Shared.TypeIs {s with heap:=s.heap.push (xC a)} (.ref ↑0) "set":=⟨_,N,rfl⟩
   have aa:=F.called_set.init.lookup;have X:=F.called_set.init.bind (.ref ↑0)
   repeat (any_goals (first |assumption|wp_step))
   refine đ (ď (R:=wants (λr L=>r=.none/\ ∃h' p,L={s with heap:=h',toks:=p}/\KSet P w h' ↑0 val items.size/\ ∀b o,s.heap.get? b=some o->h'.get? b=some o) E)
    F.called_set.init.plain F.entry_set_init (check_set_init_1 hT ?_)) λr2 L f=>?_
   .have j:(s.heap.push (xC a)).IsTuple l items:=M.push _;obtain⟨⟨oc,od,ae,os⟩,n,B,nl,C⟩:=M;cases B;cases C;have U:(s.heap.push (xC a)).get? l=some {cls:=.type "tuple",dict:=od,data:=.seq items nl,slots:=os}:=hP0 _ n;have K:=PySem.F.sub_tuple_set;have T:=PySem.F.sub_tuple_frozenset;have ab:(Value.type "tuple"==Value.type "dict")=false:=by decide
    have lt:l<s.heap.objs.size:=ã n;unfold Builtin.«set.__init__» noKeywords Builtin.Frozenset.updateFrom;generalize q:pyIter=PI
    wp_walk
    subst q;refine wpAny_pyIter_tuple j ?_;refine wB (wpAny_runValue ?_);have h3:A.in1.in1.in1.handled=none:=by simp[hh]
    have I:l<(s.heap.push (xC a)).objs.size:=by rw[ù];exact Nat.lt_succ_of_lt lt
    have out:↑0∉[(s.heap.push (xC a)).objs.size,l]:=by
     rw[ù];intro z;rcases mC.mp z with z|z
     .exact absurd z (é (Ĝ _))
     .exact absurd (mS0.mp z) (û lt)
    refine JV ((Walks.tuple h3 _ l (é I) items).toS) (D:=↑0) (val:=val) out hv hb items.size 0 _ (Nat.zero_add _) ⟨⟨_,ä _ rfl,rfl,rfl⟩,j.push _⟩ ?hS0 ?hR
    case hS0=>
     have gg:((s.heap.push (xC a)).push {cls:=.type "tuple_iterator",data:=.fields #[.ref l,.int 0 0]}).get? ↑0=some (xC a):=hP0 _ N;exact Xd gg
    case hR=>
     intro Z m d;obtain⟨h',g',d',G,H⟩:=Z;have W:g'=s.gens:=m.gens;have e2:d'=s.drawn:=m.drawn;have Y:H=s.os:=m.os;subst W;subst e2;subst Y;show wpAny _ _ _ _ _ _;refine wP ?_;show wpAny _ _ (ret Value.none) _ _ _;refine wP ⟨rfl,h',G,rfl,d,λb o e=>?_⟩;have k:=ã e;refine m.heap b o (λz=>?_) (hP0 _ (hP0 _ e));rcases mC.mp z with z|z
     .exact absurd z (é k)
     .rw[ù]at z;exact absurd (mS0.mp z) (é (Nat.lt_succ_of_lt k))
   .cases r2 with
    |error e=>exact f
    |ok fl2=>
     cases fl2 with
     |ret r=>
      obtain⟨rfl,h',p,rfl,d,u⟩:=f
      repeat (any_goals (first |assumption|wp_step))
      exact h _ _ d u
     |_=>exact f.elim
  |_=>exact t.elim
end
section
variable{p1 p2 pos1 pos2:Pos}
def Od(a:Ch)(i:Nat):Key:=.inr (yZ (a.getD i []))
def diff(a:Ch):Nat:=(uT (Od a) a.length).length
def E4(P:Ķ)(w:World)(l:Addr)(a:Ch):HO:=.ext λh=>KSet P w h l (Od a) a.length
theorem VH: ∀{b}{a},Vals (b.map λx=>V.str (yZ x)) a->a.length=b.length/\ ∀ i  v ,a[i]? =some v->StrAt (Od b) i v
 |[],a,r=>by cases r;exact⟨rfl,λi v h=>by simp at h⟩
 |y::b,a,r=>by
  cases r with
  |cons r1 r2=>
   obtain⟨t,rfl⟩:=r1;obtain⟨d,e⟩:=VH r2;refine⟨by rw[lC0,lC0,d],λi v h=>?_⟩
   cases i with
   |zero=>
    simp at h;exact .inl ⟨yZ y,t,rfl,h.symm⟩
   |succ i=>exact e i v (by simpa using h)
theorem Ji:CallR X (.type "set") (λxs H Q=> ∃a k d,xs=[.ref a]/\QW k X.K H a (d.map λx=>V.str (yZ x))/\d.length<4000/\X.calm=true/\ ∀l,H l=none->Q (.ref l) (jL H l (E4 X.prog X.w l d))):=by
 intro pins s σ H xs L Q I r h;obtain⟨a,k,d,rfl,C,M,B,q⟩:=h;obtain⟨u,rfl,E⟩:=vals1 r;cases E;have j: ∀(h':Heap)(f:Nat)(n:Nat),n=d.length->KSet X.prog X.w h' ↑0 (Od d) n->(∀b o,s.heap.get? b=some o->h'.get? b=some o)->EP X pins σ Q (.ref ↑0) {s with heap:=h',toks:=f}:=by intro h' f n J hs m;subst J;refine⟨.ref ↑0,_,I.laid (o:=E4 X.prog X.w ↑0 d) m (à _) ⟨hs,?_,λN O z G=>z.move G⟩,rfl,q _ (I.hok.fresh (à _))⟩;obtain⟨o,_,_,_,F,_⟩:=hs;exact⟨o,F⟩
 cases k with
 |true=>
  obtain⟨e,y,p,D⟩:=I.list C;obtain⟨t,A⟩:=VH y;have sz:e.toArray.size=d.length:=by rw[sA];exact t
  exact call_set_list (I.ok.hd B) p.isList (λi v h=>A i v (by simpa using h)) (by rw[sz];unfold scanBound;lia) λh' f hs m=>j h' f _ sz hs m
 |false=>
  obtain⟨e,y,p,D⟩:=I.tuple C;obtain⟨t,A⟩:=VH y;have sz:e.toArray.size=d.length:=by rw[sA];exact t
  exact OX (I.ok.hd B) p (λi v h=>A i v (by simpa using h)) (by rw[sz];unfold scanBound;lia) λh' f hs m=>j h' f _ sz hs m
theorem Jj:CallR X (.builtin "len") (λxs H Q=> ∃l a,xs=[.ref l]/\a.length<4000/\H l=some (E4 X.prog X.w l a)/\Q (.int (diff a)) H):=by
 intro pins s σ H xs z Q I r h;obtain⟨l,a,rfl,B,n,q⟩:=h;obtain⟨u,rfl,p⟩:=vals1 r;cases p;obtain⟨hs,_⟩:=(I.hok l _ n)
 obtain⟨o,es,A,t,y,b,k,f,e,v,i,m⟩:=hs;have d:diff a=es.size:=m.symm;rw[d]at q;have j:es.size<4096:=v;exact call_len_set y b k i #[0] ⟨.int _,H,I.tok _,⟨s.toks+1,rfl⟩,q⟩
noncomputable def strsOf:List MV->Option (List (List Nat))
 |[]=>some []
 |.str x::r=>(strsOf r).map (x::·)
 |_=>none
theorem ZG{K:P0}: ∀{ds}{a}{b},strsOf ds=some a->DenL K α H ds b->b=a.map λx=>V.str (yZ x)
 |[],a,b,h,d=>by cases h;rw[d.isnil];rfl
 |x::ds,a,b,h,d=>by
  obtain⟨v,r,rfl,e,l⟩:=d.uncons
  cases x with
  |str x=>
   unfold strsOf at h
   cases z:strsOf ds with
   |none=>rw[z]at h;cases h
   |some zs=>
    rw[z]at h;cases h;rw[è,kM e,ZG z l]
  |_=>cases h
def LN(rs:List Er)(S:Sto):R Er:=match rs with
 |[r]=>match srcOf S r with
  |some q=>match strsOf q.ds with
   |some ys=>if ys.length<4000 then .ok (.val (.int (diff ys:Nat))) S else .no
   |none=>.no
  |none=>.no
 |_=>.no
def E5:bootBuiltins "set"=some (.type "set"):=by decide+kernel
def Fv(v:X.calm=true)(C:Gl X "len")(hm:X.mg "len"=none)(b:Gl X "set")(d:X.mg "set"=none)(h:IW X W [e] af)
  (he:starEach [e] X.env=(false,eval e X.env)::starEach [] X.env:=by rfl) (hpl:(backTo pos2 (starEach [] X.env)).any (·.1)=false:=by rfl)
  (he1:starEach [.Call (.Name "set" p2) [e] [] pos2] X.env=(false,eval (.Call (.Name "set" p2) [e] [] pos2) X.env)::starEach [] X.env:=by rfl) (hpl1:(backTo pos1 (starEach [] X.env)).any (·.1)=false:=by rfl):
  yF X W (.Call (.Name "len" p1) [.Call (.Name "set" p2) [e] [] pos2] [] pos1) (λf S=>(af f S).bind LN):=by
 obtain⟨t,h,k⟩:=h;refine⟨_,HI Jj C hm xH (oP (RV Ji b d E5 h ↑4 ↑4 he hpl) JB he1) ↑4 ↑4 he1 hpl1,λα f S σ H Q wd A q=>k α f S σ H _ wd A (q.bind λK L J G M j y i B a=>?_)⟩
 replace a:=a.shift y
 unfold LN at a;split at a
 .rename_i r;split at a
  .rename_i q j;split at a
   .rename_i m F;split at a
    .rename_i p;obtain⟨u,rfl,D⟩:=FK B;obtain⟨z,N,rfl,s,w⟩:=OQ i j D;obtain⟨I,o,E⟩:=w.get _ _ _ s;rw[ZG F E]at o;exact⟨z,q.k,m,rfl,o,p,v,λl n=>⟨l,m,rfl,p,zV,(a.shift (i.newx n)).val (i.new n) (xD _)⟩⟩
    .exact a.elim
   .exact a.elim
  .exact a.elim
 .exact a.elim
end
def VAt(d:Addr)(b:A0)(a:Nat)(h:Heap):Prop:= ∃o es,h.get? d=some o/\o.ExactDict/\o.data=.dict es a/\es.toList.map (·.val)=b
def VAt.at(x:VAt d us ep h)(m: ∀o,h.get? d=some o->h'.get? d=some o):VAt d us ep h':=let ⟨o,es,a,r⟩:=x;⟨o,es,m o a,r⟩
theorem VAt.size(x:VAt d us ep h): ∃o es,h.get? d=some o/\o.ExactDict/\o.data=.dict es ep/\es.size=us.length/\ ∀i (hi:i<es.size),us[i]? =some es[i].val:=by obtain⟨o,es,f,b,a,e⟩:=x;refine⟨o,es,f,b,a,by rw[<-e,lM0,Đ],λi hi=>?_⟩;rw[<-e,ü,Array.getElem?_toList,Array.getElem?_eq_getElem hi];rfl
end M
end L2
namespace L2
open PySem PySem.Spec PyProof.Rows
section
variable{os:OsState}
def MF(F:ExcBaseFacts B newId initId bmB)(T:OwnTail h bmB bm){rest:A0}
  (hC:h.get? C=some (excClassObj nm q C N bs bm hdct sn sub ab col dd k0 k1 k2 k3 k5 newId)) (hn:h.Ns N mN) (hi:mN "__init__"=some (.ref fI)) (hfI:h.get? fI=some oI) (hfc:oI.cls=.type "function")
  (hq: ∀h' e,Heap.MadeExcOf h h' e (.ref C) rest->wpAny (model prog w) A (call (.ref fI) (.ref e::rest)) (λr n=>r=.none/\Q (.done (.ret (.ref e))) n) E ⟨h',g,d,t,os⟩) (hrest:rest.length<=sizeLine):
  wpAny (model prog w) A (Builtin.«type.__call__» ⟨.ref C::rest,[]⟩) Q E ⟨h,g,d,t,os⟩:=by
 repeat (first |with_reducible refine í hC ?_|with_reducible refine wpAny_madeBy_exc hC ?_|wp_step)
 refine codeAny_call_builtin_code (Ĳ _ F.quiet) (wpAny_check_new_subT F T hC ?_);refine codeAny_exc_new_subT F T hC ?_ hrest;show wpAny _ _ _ _ _ _;have a:=hP0 {cls:=.ref C,data:=.fields #[.ref h.objs.size,.none,.none,.none,.bool false,.none]} (hP0 {cls:=.type "tuple",data:=.seq rest.toArray} hC);have f:=hP0 {cls:=.ref C,data:=.fields #[.ref h.objs.size,.none,.none,.none,.bool false,.none]} (hP0 {cls:=.type "tuple",data:=.seq rest.toArray} hfI)
 have j:((h.push {cls:=.type "tuple",data:=.seq rest.toArray}).push {cls:=.ref C,data:=.fields #[.ref h.objs.size,.none,.none,.none,.bool false,.none]}).Ns N mN:=
  let ⟨o,es,u,e,r⟩:=hn;⟨o,es,u,hP0 _ (hP0 _ e),r⟩
 have i:((h.push {cls:=.type "tuple",data:=.seq rest.toArray}).push {cls:=.ref C,data:=.fields #[.ref h.objs.size,.none,.none,.none,.bool false,.none]}).get? (h.objs.size+1)=some {cls:=.ref C,data:=.fields #[.ref h.objs.size,.none,.none,.none,.bool false,.none]}:=by heap_get
 have m:(Value.ref C::bm).contains (.ref C)=true:=by simp
 have k:=T.keeps (h':=(h.push {cls:=.type "tuple",data:=.seq rest.toArray}).push {cls:=.ref C,data:=.fields #[.ref h.objs.size,.none,.none,.none,.bool false,.none]}) λb o e=>hP0 _ (hP0 _ e);unfold isInstance
 repeat (first |with_reducible refine í i ?_|(with_reducible refine wpAny_isSubtype_exc a ?_;rw[m])|wp_step)
 show wpAny _ _ (typeLookup (.ref C) _) _ _ _;refine wpAny_typeLookup_tail a j k F.mroIs F.init.lookup ?_;rw[hi];refine ĉ (wB ?_);unfold bindSpecial;refine wB (wpAny_typeOf (T:="function") ⟨_,f,hfc⟩ ?_);rw[iP ↑4];refine wP (wB (ó (hq _ (h.objs.size+1) ⟨λb o v=>hP0 _ (hP0 _ v),Heap.get?_none_of_le (le_succ _),h.objs.size,i,Heap.get?_none_of_le (à _),?_⟩) (λr n s=>?_) λ_ _ x=>x))
 .exact hP0 _ (Heap.get?_push_at rfl rfl)
 .obtain⟨rfl,p⟩:=s
  wp_walk
  exact p
def Cq(F:ExcBaseFacts B newId initId bmB)(T:OwnTail h bmB bm){rest:A0}
  (hC:h.get? C=some (excClassObj nm q C N bs bm hdct sn sub ab col dd k0 k1 k2 k3 k5 newId)) (hn:h.Ns N mN) (hi:mN "__init__"=some (.ref fI)) (hfI:h.get? fI=some oI) (hfc:oI.cls=.type "function")
  (hq: ∀h' e,Heap.MadeExcOf h h' e (.ref C) rest->wpAny (model prog w) (A.under (.builtin "type.__call__" ⟨.ref C::rest,[]⟩)) (call (.ref fI) (.ref e::rest)) (λr b=>r=.none/\Q (.ref e) b) E ⟨h',g,d,t,os⟩) (hrest:rest.length<=sizeLine):
  wpAny (model prog w) A (call (.ref C) rest) Q E ⟨h,g,d,t,os⟩:=by
 have i:=tc_lookup;have f:=tc_bind (.ref C);refine wpAny_call (codeAny_of_tree ?_);show wpAny _ _ _ _ _ _
 repeat (any_goals (first |assumption|with_reducible refine í hC ?_|wp_step))
 refine⟨rfl,?_⟩;refine codeAny_call_builtin_at (Ĳ _ (by decide+kernel)) entry_typeCall (wpAny_check_type_call_sub hC (MF (hrest:=hrest) F T hC hn hi hfI hfc λh' e a=>?_));exact hq h' e a
end
section
def Cr(b:bm.contains (.type "BaseException")=true)(o:A.handled=none)
  (h:wpAny M A x (λv a=> ∃e i k,v=.ref e/\a.heap.get? C=some (excClassObj nm q C N bs bm hdct sn sub ab col dd k0 k1 k2 k3 k5 newId)/\a.heap.get? e=some {cls:=.ref C,dict:=i,data:=.fields #[.ref k,.none,.none,.none,.bool false,.none]}/\E (.ref e) a) E s):
  wpAny M A (raiseStmt env (some x) none) Q E s:=by
 have f:(Value.ref C::bm).contains (.type "BaseException")=true:=by rw[Ĉ,b,Bool.or_true]
 refine wB (ó h (λv a d=>?_) λ_ _ x=>x);obtain⟨e,i,k,rfl,j,n,m⟩:=d
 repeat (first |with_reducible refine í n ?_|with_reducible refine í j ?_|(with_reducible refine wpAny_isSubtype_exc j ?_;rw[f])|wp_step)
 exact wpAny_raiseNew_none o m
def ZH(F:ExcBaseFacts B newId initId bmB)
  (hbase:bm.contains (.type "BaseException")=true) (hh:A.handled=none) (hplain:(backTo cpos (starEach args env)).any (·.1)=false) (hi:mN "__init__"=some (.ref fI)) (hfc:oI.cls=.type "function")
  (h:wpAny (model prog w) A (eval (.Name x np) env) (λf k=>f=.ref C/\wpAny (model prog w) A (evalArgs (.ref C) true (backTo cpos (starEach args env)) [])
   (λa b=>a.kw=[]/\a.pos.length<=sizeLine/\b.heap.get? C=some (excClassObj nm q C N bs bm hdct sn sub ab col dd k0 k1 k2 k3 k5 newId)/\b.heap.Ns N mN/\OwnTail b.heap bmB bm/\b.heap.get? fI=some oI/\
    ∀h' e,Heap.MadeExcOf b.heap h' e (.ref C) a.pos->wpAny (model prog w) (A.under (.builtin "type.__call__" ⟨.ref C::a.pos,[]⟩)) (call (.ref fI) (.ref e::a.pos))
     (λr o=>r=.none/\ ∃D y,o.heap.get? C=some (excClassObj nm q C N bs bm hdct sn sub ab col dd k0 k1 k2 k3 k5 newId)/\o.heap.get? e=some {cls:=.ref C,dict:=D,data:=.fields #[.ref y,.none,.none,.none,.bool false,.none]}/\E (.ref e) o) E {b with heap:=h'}) E k) E s):
  wpAny (model prog w) A (exec (.Raise (some (.Call (.Name x np) args [] cpos)) none pos) env) Q E s:=by
 rw[arm_exec_Raise]
 first
  |refine wB (ē (Cr (C:=C) (nm:=nm) (q:=q) (N:=N) (bs:=bs) (hdct:=hdct) (sn:=sn) (sub:=sub) (ab:=ab) (col:=col) (dd:=dd) (k0:=k0) (k1:=k1) (k2:=k2) (k3:=k3) (k5:=k5) (newId:=newId) hbase hh (wB (ó (wpAny_Call_ofName (ó h (λf k j=>?_) λ_ _ x=>x)) (λv H m=>wB (ē (wP m))) λ_ _ x=>x))))
  |(simp only[evalOpt,Option.map];refine wB _)
 obtain⟨rfl,j⟩:=j;unfold callWith;refine wB (ĉ (ó j (λa b i=>wB (ē ?_)) λ_ _ x=>x));obtain⟨apos,u⟩:=a;obtain⟨p,n,G,L,T,t,i⟩:=i;obtain rfl:u=[]:=p;obtain⟨P,g,d,S,os⟩:=b;simp only[hplain];refine wB (wpAny_keeperOf_exc G ?_);refine wB (Cq (hrest:=n) F T G L hi t hfc λh' e I=>ó (i h' e I) (λr o ⟨J,D,y,M,K,O⟩=>⟨J,wB (ĉ (wpAny_point (wP ⟨e,D,y,rfl,M,K,O⟩)))⟩) λ_ _ z=>z)
end
open Builtin Builtin.ObjectAttr
section
variable{os:OsState}
def Cs(O:uM h C M)(e:h.get? x=some o)(f:o.cls=.ref C)(i:Q () ⟨h,g,d,t,os⟩):
  wpAny Mo A (checkBuiltinCall "object.__setattr__" ⟨[.ref x,nameV,v],[]⟩) Q E ⟨h,g,d,t,os⟩:=by
 have a:=F.store_ValueError;have b:(Value.ref C::.ref M::iV).contains (.type "object")=true:=by simp[Ĉ]
 have j:=a.args (.ref x) nameV v;simp only[checkBuiltinCall,a.kind,a.split];refine wB ?_
 .unfold isInstance
  repeat (first |(with_reducible refine í e ?_;rw[f])|(with_reducible refine uN O ?_;rw[b])|wp_step)
  exact i
def SetAt(h h':Heap)(x:Addr)(o:Obj)(a:Str)(v:ĵ)(d:Addr):Prop:=
 h.get? d=none/\d≠x/\h'.get? x=some {cls:=o.cls,dict:=some d,data:=o.data,slots:=o.slots}/\h'.Ns1 d (λy=>if y=a then some v else none)/\ ∀b e,b≠x->h.get? b=some e->h'.get? b=some e
def Ct(O:uM h C M)(U:h.get? C=some (excClassObj nm q C N bs (.ref M::iV) true sn sub ab col dd k0 k1 k2 k3 k5 newId))(m:h.get? x=some o)(P:o.cls=.ref C)(G:o.dict=none)(y: ∀c,o.data≠.cls c)
  (hn:name∈qn) (hB:typeLookup (.type "ValueError") name=pure none) (hq: ∀h' u J,SetAt h h' x o name v J->Q (.done (.ret .none)) ⟨h',g,d,u,os⟩):
  wpAny (model prog w) A (Builtin.«object.__setattr__» ⟨[.ref x,.str name tk,v],[]⟩) Q E ⟨h,g,d,t,os⟩:=by
 have f:=F.store_ValueError.passes (.ref x);unfold Builtin.«object.__setattr__»
 repeat (first |rw[refuse_eq]|(rw[refuseLoop_ref,refuseLoop_ref,f])|(with_reducible refine í m ?_;rw[P])|with_reducible refine wpAny_mroOf_exc U ?_|with_reducible refine rF O hn hB ?_|wp_step)
 rw[G,iN0 (by simp[typeHasDict])];split
 .rename_i j;cases j
 split
 .rename_i c j;exact absurd j (y c)
 .have a:(h.push {cls:=.type "dict",data:=.dict #[]}).get? x=some o:=hP0 _ m;have i:x≠h.objs.size:=é (ã m);refine wB (wpAny_alloc' ?_);refine wB (wpAny_update' a ?_);refine wP ?_
  have z:((h.push {cls:=.type "dict",data:=.dict #[]}).update x λo=>{cls:=o.cls,dict:=some h.objs.size,data:=o.data,slots:=o.slots}).get? h.objs.size=some {cls:=.type "dict",data:=.dict #[]}:=
   (Heap.get?_update_ne _ _ _ _ i.symm).trans (Heap.get?_push_at rfl rfl)
  have B:((h.push {cls:=.type "dict",data:=.dict #[]}).update x λo=>{cls:=o.cls,dict:=some h.objs.size,data:=o.data,slots:=o.slots}).Ns h.objs.size (λ_=>none):=
   ⟨_,#[],_,z,rfl,λe S=>absurd S (by simp),λ_=>rfl⟩
  show wpAny _ _ (storeInDict h.objs.size (.str name tk) name v) _ _ _;unfold storeInDict newKeyGuard;refine wB (wP (wB (wpAny_nsSet1 (Heap.Ns1.of_empty B) λh' k hs=>?_)));obtain⟨Z,T,K,D,p,H⟩:=k.count (Within.cons name v Within.nil);refine wB (wpAny_lookBehind D (by rw[p];exact pastItsLine_dict (ç H (by rw[lC0,ë,ý];omega))) ?_)
  wp_walk
  refine hq h' _ h.objs.size ⟨Heap.get?_none_of_le (à _),i.symm,?_,k,λb W n I=>(hs.2 b (é (ã I))).trans ((Heap.get?_update_ne _ _ _ _ n).trans (hP0 _ I))⟩;refine(hs.2 x i).trans (ć _ a ?_);have r:=(Heap.get?_some_iff.mp m).2;obtain⟨X,Y,s,L⟩:=o;cases s<;>first |rfl|exact r
def Jk(O:uM h C M)(m:h.get? C=some (excClassObj nm q C N bs (.ref M::iV) true sn sub ab col dd k0 k1 k2 k3 k5 newId))(e:h.get? x=some o)(j:o.cls=.ref C)(f:o.dict=none)(i: ∀c,o.data≠.cls c)
  (hn:name∈qn) (hB:typeLookup (.type "ValueError") name=pure none) (hq: ∀h' a b,SetAt h h' x o name v b->Q () ⟨h',g,d,a,os⟩):wpAny (model prog w) A (setAttr (.ref x) name v) Q E ⟨h,g,d,t,os⟩:=by
 have n:=F.store_ValueError.slot.bind (.ref x);have k:("__setattr__":Str)∈qn:=by decide
 unfold setAttr callSpecial? specialOf
 repeat (any_goals (first |assumption|(with_reducible refine í e ?_;rw[j])|with_reducible refine rF O k F.store_ValueError.slot.lookup ?_|wp_step))
 refine ď F.store_ValueError.slot.plain F.store_ValueError.entry (Cs O e j (Ct O m e j f i hn hB λh' a b hs=>?_))
 repeat (any_goals (first |assumption|wp_step))
 exact hq h' a b hs
def Cu(O:uM h C M)(k:h.get? C=some (excClassObj nm q C N bs bm true sn sub ab col dd k0 k1 k2 k3 k5 newId))(j:h.get? x=some o)(i:o.cls=.ref C)(b:o.dict=some dx)(e: ∀c,o.data≠.cls c)(a:h.Ns1 dx mA)(hv:mA name=some v)
  (hn:name∈qn) (hB:typeLookup (.type "ValueError") name=pure none) (hq:Q (.done (.ret v)) ⟨h,g,d,t,os⟩):
  wpAny (model prog w) A (Builtin.«object.__getattribute__» ⟨[.ref x,.str name tk],[]⟩) Q E ⟨h,g,d,t,os⟩:=by
 repeat (any_goals (first |assumption|(with_reducible refine í j ?_;rw[i])|with_reducible refine rF O hn hB ?_|wp_step))
 split
 .rename_i c f;exact absurd f (e c)
 unfold instanceDict
 repeat (first |(with_reducible refine í j ?_;rw[i])|with_reducible refine í k ?_|wp_step)
 rw[b]
 repeat (first |(with_reducible refine wpAny_nsGet a.ns ?_;rw[hv])|wp_step)
 exact hq
def Jl(O:uM h C M)(j:h.get? C=some (excClassObj nm q C N bs bm true sn sub ab col dd k0 k1 k2 k3 k5 newId))(f:h.get? x=some o)(i:o.cls=.ref C)(b:o.dict=some dx)(e: ∀c,o.data≠.cls c)(a:h.Ns1 dx mA)(hv:mA name=some v)
  (hn:name∈qn) (hB:typeLookup (.type "ValueError") name=pure none) (hq:R (.ok (.ret v)) ⟨h,g,d,t,os⟩):
  codeAny (model prog w) A (.call (.builtin "BaseException.__getattribute__") ⟨[.ref x,.str name tk],[]⟩) R ⟨h,g,d,t,os⟩:=
 ď F.attrBase_ValueError.ga.plain F.entry_bexc_ga (SI O f i (Cu O j f i b e a hv hn hB hq))
def Uq{a:Bool}(O:uM h C M)(n:h.get? C=some (excClassObj nm q C N bs bm true sn sub ab col dd k0 k1 k2 k3 k5 newId))(j:h.get? x=some o)(k:o.cls=.ref C)(f:o.dict=some dx)(i: ∀c,o.data≠.cls c)(b:h.Ns1 dx mA)(hv:mA name=some v)
  (hn:name∈qn) (hB:typeLookup (.type "ValueError") name=pure none) (hh:handedOut v=pure v) (hq:Q v ⟨h,g,d,t,os⟩):
  wpAny (model prog w) A (getAttrBy (.ref x) (.str name tk) a expr) Q E ⟨h,g,d,t,os⟩:=by
 have r:=F.attrBase_ValueError.ga.bind (.ref x);have p:(expr&&onTheHeap (Value.builtin "BaseException.__getattribute__"))=false:=by cases expr<;>rfl
 have e:(Value.builtin "BaseException.__getattribute__"==Value.builtin "object.__getattribute__")=false:=by decide+kernel
 have m:(onTheHeap (Value.ref C)&&Value.builtin "BaseException.__getattribute__"==Value.builtin "object.__getattribute__")=false:=by rw[e];rfl
 repeat (any_goals (first |assumption|(with_reducible refine í j ?_;rw[k])|with_reducible refine rF O qn2 Wq ?_|with_reducible refine rF O qn3 YK ?_|wp_step))
 refine Jl O n j k f i b hv hn hB ?_
 repeat (any_goals (first |assumption|rw[hh]|wp_step))
def Jm(O:uM h C M)(i:h.get? C=some (excClassObj nm q C N bs bm true sn sub ab col dd k0 k1 k2 k3 k5 newId))(f:h.get? x=some o)(j:o.cls=.ref C)(b:o.dict=some dx)(e: ∀c,o.data≠.cls c)(a:h.Ns1 dx mA)(hv:mA name=some v)
  (hn:name∈qn) (hB:typeLookup (.type "ValueError") name=pure none) (hh:handedOut v=pure v) (hq:Q v ⟨h,g,d,t+1,os⟩):wpAny (model prog w) A (getAttr (.ref x) name expr) Q E ⟨h,g,d,t,os⟩:=by
 unfold getAttr
 repeat (any_goals (first |assumption|with_reducible apply Uq O i f j b e a hv hn hB hh|wp_step))
end
theorem ZI:typeLookup (.type "ValueError") "place"=pure none:=by rw[typeLookup_type,builtinLookup_eq_fast];kernel_rfl
noncomputable abbrev XU(C:Addr)(d:Option Addr)(t:Addr):Obj:={cls:=.ref C,dict:=d,data:=.fields #[.ref t,.none,.none,.none,.bool false,.none]}
section
variable{os:OsState}
def Cv(F:ExcBaseFacts B newId initId bmB)(T:OwnTail h bmB bm)(k:h.get? C=some (excClassObj nm q C N bs bm hdct sn sub ab col dd k0 k1 k2 k3 k5 newId))(f:h.get? x=some (XU C none t0))
  (hq: ∀h' i,h'.get? x=some (XU C none i)->(∀b a,b≠x->h.get? b=some a->h'.get? b=some a)->Q .none ⟨h',g,d,t,os⟩):wpAny (model prog w) A (call (.builtin initId) [.ref x,u]) Q E ⟨h,g,d,t,os⟩:=by
 refine wpAny_call (ď F.init.plain F.initEntry (wpAny_check_init_subT F T k f rfl ?_))
 wp_walk
 refine hq _ (h.objs.size) ?_ λb a j e=>?_
 .rw[ć _ (hP0 _ f) rfl];rfl
 .rw[õ _ _ (Ne.symm j)];exact hP0 _ e
end
noncomputable abbrev Xe:Nat:=10 ^ 100
inductive JL(par:Str):List Expr->Prop
 |nil:JL par []
 |txt {y:Str} {k:Nat} {pos:Pos} {es:O0}:y.length<=200->JL par es->JL par (.Constant (.str y) k pos::es)
 |fld {p pos:Pos} {es:O0}:JL par es->JL par (.FormattedValue (.Name par p) (-1) none pos::es)
section
variable{i:Nat}{σ:St}{H:Hp}
theorem Oe(D:X.N[i]? =some par)(hv:Rh X.env.scope par)(B:(par==("__debug__"))=false)(o:(par==("__classdict__"))=false)(hs:σ[i]? =some (some (.int n)))(t:n.natAbs<Xe)(C: ∀y s,y.length<=100000->Inv X pins σ H s->Q y s)
   (hj:JL par es): ∀ a  s ,a.length+200 * es.length<=100000->Inv X pins σ H s->Joins ↑6 X.A X.xe (evalEach es X.env) a Q s:=by
 induction hj with
 |nil=>intro a s d I;exact C a s (by simpa using d) I
 |@txt y k pos es hy h ih=>
  intro a s d I;rw[lC0]at d;have f:(a++y).length=a.length+y.length:=PySem.strLen_append ..;refine kL (Kp pins s σ H (λv H'=>v=.str y/\H'=H) I ⟨rfl,rfl⟩) λu s1 ⟨v,H',j,r,e,m⟩=>?_;subst e m;obtain⟨q,rfl⟩:=r;exact⟨y,q,rfl,by rw[f,ý];lia,ih _ s1 (by rw[f];lia) j⟩
 |@fld p pos es h ih=>
  intro a s d I;rw[lC0]at d;have len:(Str.ofString (toString n)).length<=101:=by rw[PySem.ofString_length];exact int_text_length_le10 ↑4 t
  have f:(a++(toString n:Str)).length<=a.length+101:=by have:=PySem.strLen_append a (toString n:Str);rw[this];exact Nat.add_le_add_left len _
  have b:n.natAbs.log2<1920:=by
   by_cases z:n.natAbs=0
   .rw[z];decide
   .exact(log2_lt z).mpr (lt_trans t (by decide+kernel))
  refine wpAny_FormattedValue_plain (kL (NN D hv B o pins s σ H (λv H'=>v=.int n/\H'=H) I ⟨_,hs,rfl,rfl⟩) λu s1 ⟨v,H',j,r,e,m⟩=>?_);subst e m;obtain⟨q,rfl⟩:=r;exact wpAny_formatField_int b ⟨_,_,rfl,by rw[ý];lia,ih _ _ #[0] (j.tok _)⟩
def tJ(i:Nat):TE:=λσ H Q=> ∃n,σ[i]? =some (some (.int n))/\n.natAbs<Xe/\ ∀y:Str,Q (.str y) H
theorem Ur(b:X.N[i]? =some par)(hv:Rh X.env.scope par)(d:(par==("__debug__"))=false)(a:(par==("__classdict__"))=false)(h:JL par (v1::v2::vs))(j:vs.length<=100):PE X (.JoinedStr (v1::v2::vs) pos) (tJ i):=by
 intro pins s σ H Q I ⟨n,hs,e,q⟩;refine wpAny_JoinedStr (Oe b hv d a hs e (λy s1 f I1=>⟨by rw[ý];lia,.str y,H,I1.tok _,⟨_,rfl⟩,q y⟩) h _ s ?_ I);rw[lC0,lC0];show 0+_<=_
 lia
end
noncomputable def Xf(H:Hp)(e:Addr):Hp:=λb=>if b=e then none else H b
def GI(h:b≠e):Xf H e b=H b:=by unfold Xf;rw[iN0 h]
def ZJ:Xf H e e=none:=by unfold Xf;rw[iP rfl]
def Inv.untrack(J:↑1)(o:H e=some (.ext d)):Inv X pins σ (Xf H e) s:=by
 have ne: ∀b u,H b=some u->(∀d,u≠.ext d)->b≠e:=λb u q z y=>by rw[y,o]at q;cases q;exact z _ rfl
 have a: ∀b,H b=none->Xf H e b=none:=λb q=>by unfold Xf;split<;>trivial
 refine⟨J.ok,J.os,J.bare,⟨J.base.keep,J.base.slot,λb j q n t=>a b (J.base.free b j q n t),J.base.there,λb xs q=>?_,λb f u q=>?_,λb ps q=>?_⟩,J.loc,J.cell,a _ J.free,λx c m=>a _ (J.freeC x c m),λp k=>?_,λb u q=>?_,J.len⟩
 .rw[GI (ne b _ (J.base.tups b xs q) λ_ z=>by cases z)];exact J.base.tups b xs q
 .rw[GI (ne b _ (J.base.frzs b f u q) λ_ z=>by cases z)];exact J.base.frzs b f u q
 .obtain⟨i,z⟩:=J.base.tbls b ps q;exact⟨i,by rw[GI (ne b _ z λ_ z=>by cases z)];exact z⟩
 .obtain⟨h,n,r⟩:=J.pin p k;exact⟨h,a _ n,r⟩
 .by_cases z:b=e
  .rw[z,ZJ]at q;cases q
  .rw[GI z]at q;exact(J.hok b u q).stay (λ_ _ _ r=>r) (λc r=>by rw[GI (ne c _ r λ_ z=>by cases z)];exact r) λc xs r=>by rw[GI (ne c _ r λ_ z=>by cases z)];exact r
namespace M
structure XIn(K:P0)(M C f:Addr):Prop where
 ex: ∃nm q N bs sn sub ab col dd k0 k1 k2 k3 k5,K.lookup C=some (excClassObj nm q C N bs (.ref M::iV) true sn sub ab col dd k0 k1 k2 k3 k5 "ValueError.__new__")/\PySem.W.nsOkIn K N=true/\PySem.W.nsIn K N "__init__"=some (some (.ref f))/\ ∀n∈qn,PySem.W.nsIn K N n=some none
 fo: ∃o,K.lookup f=some o/\o.cls=.type "function"
def XIn.cl{K:P0}(x:XIn K M C f):CG K C (.ref M::iV) (some (.ref f)):=by obtain⟨nm,q,N,bs,o,sub,h,e,i,n,k,m,p,j,a,b,c,d⟩:=x.ex;exact⟨nm,q,N,bs,true,o,sub,h,e,i,n,k,m,p,j,a,b,c,d,rfl⟩
structure XMn(K:P0)(M:Addr):Prop where
 ga:PySem.W.specialIn K (.ref M) "__getattribute__"=some (some (.builtin "type.__getattribute__"))
 rd:PySem.W.readsIn K M (.type "type")=true
 init:PySem.W.findCls K (.ref M) (.type "type") "__init__"=some (.val (.builtin "ValueError.__init__"))
def Fw(C:Addr)(b:Str):Sp:=λj H Q _=> ∃e n f,j=[.ref e,.int n]/\n.natAbs<Xe/\H e=some (.ext λh=>h.get? e=some (XU C none f))/\
 ∀a d i,H a=none->a≠e->Q .non (jL (jL H a (.frz d (.xd [(b,.int n)]))) e (.ext λh=>h.get? e=some (XU C (some a) i)))
def Xg{K:P0}(X:K.In h)(m:CG K M iV none):OwnTail h iV (.ref M::iV):=by obtain⟨_,_,e,_,_,_,_,_,_,_,_,_,_,_,_,b,a,d,_⟩:=m;exact .own (X _ _ b) (.of_isNs (PySem.W.isNs_of_in X a)) (PySem.W.nsMap_none_of_in X a d) .base
section
variable{p6 p10:Pos}
def Of(hM:CG X.K M iV none)(XI:XIn X.K M C f)(XM:XMn X.K M)(au:X.mg "MendError"=some (.ref M))(hg:Gl X "MendError")(ae:X.N[0]? =some ("self":Str))(aa:X.N[1]? =some par)(Y:Rh X.env.scope "self")(T:Rh X.env.scope par)
  (hd:(par==("__debug__"))=false) (hcd:(par==("__classdict__"))=false) (hj:JL par (v1::v2::m)) (hl:m.length<=100) (hf:fld∈qn) (hB:typeLookup (.type "ValueError") fld=pure none) (hcalm:X.calm=true)
  (ht:eval (.Call (.Attribute (.Name "MendError" p1) "__init__" p2) [.Name "self" p3,.JoinedStr (v1::v2::m) p4] [] p5) X.env=(do
   let ov <-eval (.Name "MendError" p1) X.env
   standAt p2.atName
   let (f,first) <-holding [ov] (getMethod ov "__init__" pl)
   callWith p5 f first (backTo p5 (starEach [.Name "self" p3,.JoinedStr (v1::v2::m) p4] X.env)) (backToKw p5 (keywordEach [] X.env))))
  (hs1:swapsWith (.Call (.Attribute (.Name "MendError" p1) "__init__" p2) [.Name "self" p3,.JoinedStr (v1::v2::m) p4] [] p5) none p6.line X.env=pure false) (hs2:swapsWith (.Name par p9) (some (.Attribute (.Name "self" p7) fld p8)) p10.line X.env=pure false)
  (he:starEach [Expr.Name "self" p3,.JoinedStr (v1::v2::m) p4] X.env=(false,eval (.Name "self" p3) X.env)::starEach [.JoinedStr (v1::v2::m) p4] X.env:=by rfl) (he2:starEach [Expr.JoinedStr (v1::v2::m) p4] X.env=(false,eval (.JoinedStr (v1::v2::m) p4) X.env)::starEach [] X.env:=by rfl)
  (hpl:(backTo p5 (starEach [Expr.JoinedStr (v1::v2::m) p4] X.env)).any (·.1)=false:=by rfl):
  PSs X [.Expr (.Call (.Attribute (.Name "MendError" p1) "__init__" p2) [.Name "self" p3,.JoinedStr (v1::v2::m) p4] [] p5) p6,.Assign [.Attribute (.Name "self" p7) fld p8] (.Name par p9) p10]
   (λD σ H=> ∃e n t0,σ[0]? =some (some (.ref e))/\σ[1]? =some (some (.int n))/\n.natAbs<Xe/\H e=some (.ext λh=>h.get? e=some (XU C none t0))/\
    ∀i O t,H i=none->i≠e->D.nx σ (jL (jL H i (.frz O (.xd [(fld,.int n)]))) e (.ext λh=>h.get? e=some (XU C (some i) t)))):=by
 intro pins s σ H D I ⟨e,n,t0,s0,s1,hb,hH,q⟩;obtain⟨nm,qq,N,bs,sn,sub,ab,aw,dd,k0,k1,k2,k3,k5,lC,oN,iN,qN⟩:=XI.ex;refine wpAny_execs_cons (wpAny_Expr_any ?_ I.quiet hs1);refine PySem.W.methodCall_KW (pl:=pl) (rC I hg au ?_) ht;refine PySem.W.method_cls I.kIn XM.ga (PySem.W.cls_value I.kIn XM.rd XM.init rfl ?_);refine PyProof.Rows.callWith_builtin1 (kL (oP (NN (X:=X) ae Y) (oP (Ur aa T hd hcd hj hl) JB he2) he p5 pins _ σ H (λm H1=> ∃y,m=[.ref e,.str y]/\H1=H) (I.tok _) ⟨_,s0,n,s1,hb,λy=>⟨y,rfl,rfl⟩⟩) ?_) he hpl;rintro us s2 ⟨a0,H2,U,r2,y,e2,e3⟩;subst e2;rw[e3]at U
 obtain⟨u1,rfl⟩: ∃u1,us=[.ref e,u1]:=by
  cases r2 with
  |cons r1 r=>cases r with
   |cons r2 r=>cases r;cases r1;exact⟨_,rfl⟩
 have aq:s2.heap.get? e=some (XU C none t0):=(U.hok e _ hH).1;have mu:O2 (H e):=by rw[hH];trivial
 obtain⟨az,g2,d2,af,ak⟩:=s2;refine Cv F.excBase_ValueError (Xg U.kIn hM) (U.kIn _ _ lC) aq λh3 t G ao=>?_
 have I3:Inv X pins σ (jL H e (.ext λh=>h.get? e=some (XU C none t))) ⟨h3,g2,d2,af,ak⟩:=
  U.write (t':=af) mu (.inl rfl) (λb u p hu=>ao b u p hu) ⟨_,G⟩ ⟨G,⟨_,G⟩,λh1 h2 z k=>k _ z⟩
 refine wpAny_execs_cons (plainObj_wpAny_Assign_Attribute ?_ hs2);refine kL (NN (X:=X) aa T hd hcd pins _ σ _ (λv H'=>v=.int n/\H'=jL H e (.ext λh=>h.get? e=some (XU C none t))) I3 ⟨_,s1,rfl,rfl⟩) ?_;rintro u s4 ⟨v4,H4,I4,r4,e4,e5⟩;subst e4 e5;refine kL (NN (X:=X) ae Y ↑4 ↑4 pins _ σ _ (λv H'=>v=.ref e/\H'=jL H e (.ext λh=>h.get? e=some (XU C none t))) I4 ⟨_,s0,rfl,rfl⟩) ?_;rintro u5 s5 ⟨v5,H5,L,r5,e6,e7⟩;subst e6 e7;cases r5;have aj:s5.heap.get? e=some (XU C none t):=(L.hok e _ zV).1;obtain⟨ah,g5,d5,a3,av⟩:=s5;refine Jk (IC L.kIn XI.cl hM) (L.kIn _ _ lC) aj rfl rfl (λc z=>by cases z) hf hB λh6 ai i st=>İ ?_;obtain⟨n6,S,J,Q,k6⟩:=st;obtain⟨O,ax,ay,ar,r6⟩:=id Q;have E:H i=none:=by have:=L.hok.none_of n6;rwa [zP S]at this
 refine⟨σ,_,?_,q i O t E S⟩;have j: ∀b,b≠e->(jL (jL H i (.frz O (.xd [(fld,.int n)]))) e (.ext λh=>h.get? e=some (XU C (some i) t))) b=jL H i (.frz O (.xd [(fld,.int n)])) b:=λb p=>zP p;have B: ∀b o,H b=some o->b≠i:=λb o z y=>by rw[y,E]at z;cases z
 have d: ∀b,b≠e->(jL H e (.ext λh=>h.get? e=some (XU C none t))) b=H b:=λb p=>zP p;refine L.un (h':=h6) (t':=ai) ⟨λb o z A _ _=>k6 b o (λy=>by rw[y,zV]at A;cases A) z,λb o z A _ _=>⟨o.slots,k6 b o (λy=>by rw[y,zV]at A;cases A) z⟩,λb o z A _=>?_,λb o z _=>?_,λb xs z=>?_,λb o' u' z=>?_,λb ps z=>?_⟩ λb u' z=>?_
 .have a:b≠e:=λy=>by rw[y,zV]at A;cases A
  rw[d b a]at A;rw[j b a,zP (λy=>by rw[y]at z;exact absurd (show ah.get? i=some o from z) (by rw[n6];simp))];exact A
 .by_cases a:b=e
  .exact⟨_,by rw[a];exact J⟩
  .exact⟨o,k6 b o a z⟩
 .have a:b≠e:=λy=>by rw[y,zV]at z;cases z
  rw[d b a]at z;rw[j b a,zP (B b _ z)];exact z
 .have a:b≠e:=λy=>by rw[y,zV]at z;cases z
  rw[d b a]at z;rw[j b a,zP (B b _ z)];exact z
 .have a:b≠e:=λy=>by rw[y,zV]at z;cases z
  rw[d b a]at z;exact⟨#[],by rw[j b a,zP (B b _ z),z];simp⟩
 .by_cases a:b=e
  .subst a;rw[zV]at z;cases z;exact⟨J,⟨_,J⟩,λh1 h2 z k=>k _ z⟩
  .rw[j b a]at z;by_cases ag:b=i
   .subst ag;rw[zV]at z;cases z;refine⟨ar,_,Q,λy=>?_⟩;obtain⟨tk,rfl⟩:=r4;by_cases hy:y=fld
    .subst hy;rw[iP rfl,List.lookup_cons_self];exact⟨tk,rfl⟩
    .rw[iN0 hy];have:(([(fld,V.int n)]:List (Str×V))).lookup y=none:=by rw[Ğ];rw[show(y==fld)=false from by simpa using hy];rfl
     rw[this];trivial
   .rw[zP ag]at z;have z5:(jL H e (.ext λh=>h.get? e=some (XU C none t))) b=some u':=by rw[d b a];exact z
    have Z: ∀c o,(jL H e (.ext λh=>h.get? e=some (XU C none t))) c=some o->(∀φ,o≠.ext φ)->(jL (jL H i (.frz O (.xd [(fld,.int n)]))) e _) c=some o:=λc o w ne=>by
     have P:c≠e:=λy=>by rw[y,zV]at w;cases w;exact ne _ rfl
     rw[d c P]at w;rw[j c P,zP (B c _ w)];exact w
    refine(L.hok b u' z5).stay (λc v hc r=>k6 c v ?_ r) (λc w=>Z c _ w λ_ y=>by cases y) λc xs w=>Z c _ w λ_ y=>by cases y
    rcases hc with rfl|hc
    .exact a
    .intro y;rw[y,zV]at hc;cases hc
end
section
variable{K:P0}{st:Stmt}
def Us{pl:Env->Sem Bool}(u:Fun K "__init__" qual st f fd)(o:FnScope ["self",par] ["self",par] (zG st))(p:CG K M iV none)(k:XIn K M C f)(m:XMn K M)(d:mg "MendError"=some (.ref M))
  (hbd:gR st=[.Expr (.Call (.Attribute (.Name "MendError" p1) "__init__" p2) [.Name "self" p3,.JoinedStr (v1::v2::vs) p4] [] p5) p6,.Assign [.Attribute (.Name "self" p7) fld p8] (.Name par p9) p10])
  (ht: ∀a:Env,eval (.Call (.Attribute (.Name "MendError" p1) "__init__" p2) [.Name "self" p3,.JoinedStr (v1::v2::vs) p4] [] p5) a=(do
   let j <-eval (.Name "MendError" p1) a
   standAt p2.atName
   let (f,first) <-holding [j] (getMethod j "__init__" (pl a))
   callWith p5 f first (backTo p5 (starEach [.Name "self" p3,.JoinedStr (v1::v2::vs) p4] a)) (backToKw p5 (keywordEach [] a))))
  (hs1: ∀a:Env,swapsWith (.Call (.Attribute (.Name "MendError" p1) "__init__" p2) [.Name "self" p3,.JoinedStr (v1::v2::vs) p4] [] p5) none p6.line a=pure false) (hs2: ∀a:Env,swapsWith (.Name par p9) (some (.Attribute (.Name "self" p7) fld p8)) p10.line a=pure false)
  (hg:(zG st).names.lookup ("MendError":Str)=some .globalImplicit) (h0:(zG st).names.lookup ("self":Str)=some .local) (h1:(zG st).names.lookup par=some .local)
  (hd:(par==("__debug__"))=false) (hcd:(par==("__classdict__"))=false) (hj:JL par (v1::v2::vs)) (hl:vs.length<=100) (hf:fld∈qn) (hB:typeLookup (.type "ValueError") fld=pure none):FnOk P w K mg base LD 1 f fd ["self",par] (Fw C fld):=by
 refine u.ok o (λh H Q E ⟨e,n,i,z,_⟩=>by rw[z];rfl) λr A b s H h Q E y ⟨e,n,i,z,t,v,q⟩=>?_;subst z;rw[hbd];exact⟨_,Of p k m d hg rfl rfl (.inl h0) (.inl h1) hd hcd hj hl hf hB rfl (ht _) (hs1 _) (hs2 _),e,n,i,rfl,rfl,t,v,q⟩
end
end M
end L2
namespace L2
section
open PySem PySem.Spec PyProof.Rows
def Inv.trackE(J:↑1)(o:Out X pins H s e)(j:s.heap.get? e=some ob):Inv X pins σ (jL H e (.ext λh=>h.get? e=some ob)) s:=by
 refine⟨J.ok,J.os,J.bare,⟨J.base.keep,J.base.slot,λb a q n w=>?_,J.base.there,λb xs q=>?_,λb i u q=>?_,λb ps q=>?_⟩,J.loc,J.cell,?_,λx c f=>?_,λp d=>?_,λb u q=>?_,J.len⟩
 .rw[zP λz=>by rw[z,o.s0]at q;cases q];exact J.base.free b a q n w
 .rw[zP (zX (J.base.tups b xs q) o.h)];exact J.base.tups b xs q
 .rw[zP (zX (J.base.frzs b i u q) o.h)];exact J.base.frzs b i u q
 .obtain⟨t,z⟩:=J.base.tbls b ps q;exact⟨t,by rw[zP (zX z o.h)];exact z⟩
 .rw[zP (o.loc J)];exact J.free
 .rw[zP (o.cell J f)];exact J.freeC x c f
 .obtain⟨m,n,ne,nf,v⟩:=J.pin p d;exact⟨m,by rw[zP (o.pin p d)];exact n,ne,nf,v⟩
 .by_cases z:b=e
  .subst z;rw[zV]at q;cases q;exact⟨j,⟨ob,j⟩,λy A p k=>k _ p⟩
  .rw[zP z]at q;exact(J.hok b u q).stay (λ_ _ _ r=>r) (λc r=>by rw[zP (zX r o.h)];exact r) λc xs r=>by rw[zP (zX r o.h)];exact r
end
namespace M
open PySem PySem.Spec PyProof.Rows
def Cw{K:P0}(X:K.In h)(G:h.Ns N mg)(e:PySem.W.nsIn K N n=some (some v)):mg n=some v:=by
 obtain⟨o,es,p,b,i,_,a⟩:=G;unfold PySem.W.nsIn at e;split at e
 .rename_i c d j m k q;have:=X _ _ q;rw[b]at this;cases this;cases i;split at e
  .rename_i r f;cases e;rw[<-a];unfold nsFind findBy;rw[<-Array.find?_toList,f];rfl
  .split at e<;>cases e
 .cases e
def O8(x a:Str):Er->Sto->R Fl
 |.val (.int n),S=>if n.natAbs<Xe then .exc x [(a,.int n)] S else .no
 |_,_=>.no
section
variable{pos np cpos:Pos}
def JW(hx:XOk X E)(hg:Gl X x)(hm:X.mg x=some (.ref C))(hM:CG X.K M iV none)(XI:XIn X.K M C f)(G:FnOk X.prog X.w X.K X.mg X.base LD 1 f fd ["self",par] (Fw C fld))(hb:Binds X.K fd ["self",par] [])(hr:Room k X.A)(ha:yF X (WE X.g E) e fe)
  (hk:2<=k:=by decide) (hex:X.ex=[]:=by rfl) (hcalm:X.calm=true:=by rfl) (hd:(x==("__debug__"))=false:=by decide) (he:starEach [e] X.env=(false,eval e X.env)::starEach [] X.env:=by rfl) (hpl:(backTo cpos (starEach [] X.env)).any (·.1)=false:=by rfl):
  Eo X (WE X.g E) (.Raise (some (.Call (.Name x np) [e] [] cpos)) none pos) (λρ S=>(fe ρ S).bind (O8 x fld)):=by
 obtain⟨ta,ha,fa⟩:=ha;refine⟨λD σ H=>ta σ H λv j=> ∃n,v=.int n/\n.natAbs<Xe/\ ∀d i,j d=none->E (.ref C) (some d) (jL j d (.frz i (.xd [(fld,.int n)]))),λpins s σ H D I h=>?_,λα ρ S σ H D wd sl q=>fa α ρ S σ H _ wd sl (q.expr λv r S1 af j e1 x1 w1 d1 L=>?_)⟩
 .obtain⟨nm,q,N,bs,sn,sub,ab,col,dd,k0,k1,k2,k3,k5,lC,oN,iN,qN⟩:=XI.ex;obtain⟨oI,lI,cI⟩:=XI.fo;have U:=I.mod.kin;have hN:=Heap.Ns.of_isNs (PySem.W.isNs_of_in U oN);have ae:=Cw U hN iN;have T:=Xg U hM
  refine ZH (C:=C) (nm:=nm) (q:=q) (N:=N) (bs:=bs) (hdct:=true) (sn:=sn) (sub:=sub) (ab:=ab) (col:=col) (dd:=dd) (k0:=k0) (k1:=k1) (k2:=k2) (k3:=k3) (k5:=k5) (fI:=f) (oI:=oI)
   F.excBase_ValueError (T.hasType F.excBase_ValueError.hasBase) (I.ok.hd hcalm) (by rw[he];exact hpl) ae cI (rC I hg hm ⟨rfl,?_⟩ hd)
  have Z:=oP ha JB he cpos pins s σ H (λvs j=>match vs with |[v]=> ∃n,v=.int n/\n.natAbs<Xe/\ ∀d i,j d=none->E (.ref C) (some d) (jL j d (.frz i (.xd [(fld,.int n)])))|_=>False) I h;rw[he]at Z ⊢;refine Calls.evalArgs_plain (kL Z λt s1 ⟨vs,j,I1,r1,hv⟩=>?_)
  obtain⟨v0,rfl,n,rfl,hn,hE⟩: ∃v0,vs=[v0]/\ ∃n,v0=.int n/\n.natAbs<Xe/\ ∀d i,j d=none->E (.ref C) (some d) (jL j d (.frz i (.xd [(fld,.int n)]))):=by
   match vs,hv with
   |[v],hv=>exact⟨v,rfl,hv⟩
  have B:t.length=1:=by rw[<-r1.length];rfl
  refine⟨rfl,by show t.length<=_;rw[B];decide,I1.bk _ _ (U _ _ lC),hN.keeps I1.bk,T.keeps I1.bk,I1.bk _ _ (U _ _ lI),λh' a mk=>?_⟩;have J1:Inv X pins σ j {s1 with heap:=h'}:=I1.kept (t':=s1.toks) mk.keeps;obtain⟨t0,aa,_,_⟩:=mk.there;have oa:Out X pins j {s1 with heap:=h'} a:=⟨I1.older hex mk.new,I1.hok.none_of mk.new,λp hp z=>(by have:=(I1.pin p hp).1;rw[z,mk.new]at this;cases this),_,_,aa,rfl⟩
  have J2:=J1.trackE oa aa;have rv:Vals [.ref a,.int n] (.ref a::t):=.cons rfl r1
  refine wpAny_call (đ (G.run _ X.stack _ _ ⟨.ref a::t,[]⟩ (.ref a::t) [.ref a,.int n] (λv H'=>v=.non/\ ∃d i O,j d=none/\d≠a/\H'=jL (jL _ d (.frz i (.xd [(fld,.int n)]))) a (.ext λh=>h.get? a=some (XU C (some d) O))) E0
   ((hr.mono hk).make C t []) (J2.env0.make C t []) ?_ rv ⟨a,n,t0,rfl,hn,zV,λd i O h1 h2=>⟨rfl,d,i,O,by rwa [zP h2]at h1,h2,rfl⟩⟩) λr s' Y=>?_)
  .have hh:=hb _ (.ref a::t) J2.kIn (by simp[B]);rw[aN]at hh;exact hh
  .cases r with
   |error y=>exact Y.elim
   |ok fl=>
    cases fl with
    |ret u=>
     obtain⟨v3,H3,I3,r3,e3,d,i,O,o,Q,e4⟩:=J2.after Y;subst e3;have P:s'.heap.get? a=some (XU C (some d) O):=(I3.hok a (.ext λh=>h.get? a=some (XU C (some d) O)) (by rw[e4];exact zV)).1;have I4:=I3.untrack (e:=a) (by rw[e4];exact zV)
     have eH:Xf H3 a=jL j d (.frz i (.xd [(fld,.int n)])):=by
      funext b;rw[e4];by_cases m:b=a
      .rw[m,ZJ,zP (Ne.symm Q)];exact oa.h.symm
      .rw[GI m,zP m];by_cases J:b=d
       .rw[J,zV,zV]
       .rw[zP J,zP m,zP J]
     rw[eH]at I4;exact⟨r3,_,_,I3.kIn _ _ lC,P,hx.born pins σ _ s' a C (some d) I4 ⟨_,_,P,rfl,rfl,rfl,rfl,rfl⟩ oa.s0 (by rw[zP (Ne.symm Q)];exact oa.h) (hE d i o)⟩
    |next=>exact False.elim Y
    |brk=>exact False.elim Y
    |cont=>exact False.elim Y
 .unfold O8 at L;split at L
  .rename_i n;split at L
   .rename_i hn;exact⟨n,xT d1.1,hn,λd i o=>L af _ (x1.trans (w1.newx o)) (w1.new o) C (some d) hm (.inr ⟨d,_,i,rfl,zV,.cons (xD n) .nil⟩)⟩
   .exact L.elim
  .exact L.elim
end
noncomputable def Og(ns:C0)(a:Str):Er->Sto->R Er
 |.val (.loc l),S=>match S[l]? with
  |some (.ins c fs)=>if c∈ns then(match fs.lookup a with
   |some (.int n)=>.ok (.val (.int n)) S
   |_=>.no)else .no
  |_=>.no
 |_,_=>.no
theorem DenF.get{K:P0}: ∀{fs gs},DenF K α H fs gs->fs.lookup y=some d-> ∃v,gs.lookup y=some v/\Den K α H d v
 |_,_,.nil,h=>by simp at h
 |_,_,.cons (x:=x) a l,h=>by
  rw[Ğ]at h ⊢
  cases q:y==x with
  |true=>rw[q]at h;cases h;exact⟨_,rfl,a⟩
  |false=>rw[q]at h;exact DenF.get l h
section
variable{pos:Pos}
def E6(T:XTab X.K X.mg M cs)(hf:fld∈qn)(hB:typeLookup (.type "ValueError") fld=pure none)(ha:yF X W a f)(m:cs.map (·.1)=ns:=by rfl)
  (hbase:attributeBase a fld X.env (eval a X.env)=eval a X.env:=by rfl) (hgo: ∀o r,letTemporaryGo a o r=pure ():=by intro _ _;rfl):yF X W (.Attribute a fld pos) (λL S=>(f L S).bind (Og ns fld)):=by
 subst m;obtain⟨ta,ha,fa⟩:=ha
 refine⟨λσ H Q=>ta σ H λv w=> ∃k j t F D n C,v=.ref k/\w k=some (.frz j (.ext λh=>h.get? k=some j))/\j.cls=.ref C/\j.dict=some t/\w t=some (.frz F (.xd D))/\D.lookup fld=some (.int n)/\(∃i,CG X.K C (.ref M::iV) i)/\(∀c,j.data≠.cls c)/\Q (.int n) w,
  λpins s σ H Q I h=>?_,λα L S σ H Q wd sl q=>fa α L S σ H _ wd sl (q.bind λu r S1 ai w e1 x1 w1 d1 b=>?_)⟩
 .rw[arm_eval_Attribute,hbase];refine wB (kL (ha pins s σ H _ I h) λu s1 ⟨v,w,I1,r1,k,j,t,F,D,n,C,e1,Y,G,p,ae,J,⟨i,cC⟩,U,q⟩=>?_);subst e1;cases r1;refine wB (ē (wB (ĉ ?_)));have hx:=(I1.hok k _ Y).1;obtain⟨_,mA,m,E⟩:=I1.hok t _ ae;have e:=E fld;rw[J]at e
  cases B:mA fld with
  |none=>rw[B]at e;exact e.elim
  |some u=>
   rw[B]at e;obtain⟨tk,rfl⟩:=e;have O:=IC I1.kIn cC T.mc;obtain⟨nm,q',N,bs,ag,sn,sub,ab,ah,dd,k0,k1,k2,k3,k5,lC,_,_,_,rfl⟩:=cC;have hC:=I1.kIn _ _ lC;obtain⟨hp,g,d,aj,os⟩:=s1;refine Jm O hC hx G p U m B hf hB rfl ?_;rw[hgo];exact wB (wP (wP ⟨.int n,w,I1.tok _,⟨tk,rfl⟩,q⟩))
 .replace b:=b.shift x1
  unfold Og at b;split at b
  .rename_i l;split at b
   .rename_i c fs hl;split at b
    .rename_i G;split at b
     .rename_i n y;obtain⟨k,rfl,P⟩:=pF d1.1;obtain⟨C,D,B,A,j,Y,Z,p⟩:=w1.obj l k _ P hl;obtain⟨⟨c',C'⟩,af,rfl⟩:=mM0.mp G;obtain⟨z1,z2⟩:=T.each.at af;have:C=C':=by have z:X.mg c'=some _:=B;rw[z1]at z;cases z;rfl
      subst this;rcases p with rfl|⟨t,F,h1,h2,vs,h3⟩
      .simp at y
      .obtain⟨v,hv,hd⟩:=A.get y;rw[jS hd]at hv;exact⟨k,j,t,F,D,n,C,rfl,Y,Z,h1,h2,hv,z2,(λc z=>by rw[h3]at z;cases z),Post.val b w1 (xD n)⟩
     .exact b.elim
    .exact b.elim
   .exact b.elim
  .exact b.elim
end
section
def Ut(e:X.A.units+64<cLine)(n:yF X W a f)(k:yF X W b g)(o:yF X W c h)(hm:lastMarks [.Lt,.Lt] [b,c]=false:=by with_unfolding_all rfl):yF X W (.Compare a [.Lt,.Lt] [b,c] pos) (λd S=>(f d S).bind λp j=>(g d j).bind λq i=>JG MW MW p q i λm=>h d m):=OH (BW e) (BW e) rM rM n k o hm
def Uu(e:X.A.units+64<cLine)(n:yF X W a f)(k:yF X W b g)(o:yF X W c h)(hm:lastMarks [.Lt,.Lt] [b,c]=false:=by with_unfolding_all rfl):MS X W (.Compare a [.Lt,.Lt] [b,c] pos) (λd S=>((f d S).bind λp j=>(g d j).bind λq i=>JG MW MW p q i λm=>h d m).bind bC):=OI (BW e) (BW e) rM rM n k o hm
end
def xin_mk{K:P0}
  (l:K.lookup C=some (excClassObj nm q C N bs (.ref M::iV) true sn sub ab col dd k0 k1 k2 k3 k5 "ValueError.__new__")) (n:K.lookup N=some ⟨oc,od,.dict es ep,sl⟩) (o:(es.toList.all λe=>match e.key with |.str _ _=>true|_=>false)=true)
  (i:PySem.W.nsIn K N "__init__"=some (some (.ref f))) (q1:PySem.W.nsIn K N "__class__"=some none) (q2:PySem.W.nsIn K N "__getattribute__"=some none) (q3:PySem.W.nsIn K N "__getattr__"=some none)
  (q4:PySem.W.nsIn K N "__setattr__"=some none) (q5:PySem.W.nsIn K N "place"=some none) (q6:PySem.W.nsIn K N "number"=some none) (lf:K.lookup f=some fo) (cf:fo.cls=.type "function"):XIn K M C f:=by
 refine⟨⟨nm,q,N,bs,sn,sub,ab,col,dd,k0,k1,k2,k3,k5,l,?_,i,λy a=>?_⟩,fo,lf,cf⟩
 .unfold PySem.W.nsOkIn;rw[n];rw[Array.all_toList]at o;exact o
 .simp only[qn,mC,nM,or_false]at a;rcases a with rfl|rfl|rfl|rfl|rfl|rfl<;>assumption
structure DefM(K:P0)(mg:K0)(x:Str)(st:Stmt):Prop where
 ex: ∃f fd,mg x=some (.ref f)/\Fun K x x st f fd
def def_mk{K:P0}{st:Stmt}{kV:ĵ}(a:PySem.W.nsIn K mainGlobals x=some (some (.ref g)))
  (l:K.lookup g=some ⟨oc,od,.func (PySem.W.fnOf x x (rD st) (gR st) (zG st) .none kV dc pm an cd ct),sl⟩) (c:PySem.W.codeIn K cd x=true) (k:PySem.W.keepIn K (.ref g)=true) (X:K.In h) (GG:h.Ns mainGlobals mg):DefM K mg x st:=⟨_,_,PySem.W.mg_of X GG a,Lk l c k⟩
structure Cal(P:Ķ)(w:World)(K:P0)(mg:K0)(base:Heap)(CX:Ib)(x:Str)(k:Nat)(ps:C0)(sp:Sp):Prop where
 ex: ∃fa fd,FnOk P w K mg base CX k fa fd ps sp/\mg x=some (.ref fa)/\PySem.W.keepIn K (.ref fa)=true/\Binds K fd ps []
abbrev Uv(P:Program)(w:World)(K:P0)(mg:K0)(base:Heap)(x:Str)(k n:Nat)(ps:C0)(F:List MV->Sto->R Er):Prop:=Cal P w K mg base LD x k ps (XS ⟨K,mg,P,w⟩ n F)
abbrev Jn(P:Program)(w:World)(K:P0)(mg:K0)(base:Heap)(x:Str)(k n:Nat)(ps:C0)(F:List MV->Sto->R Er):Prop:=Cal P w K mg base (YJ P w) x k ps (Kk ⟨K,mg,P,w⟩ n F)
section
variable{K:P0}{st:Stmt}
abbrev Cy(x:Str)(st:Stmt)(ps:C0):Prop:= ∀(kV a f:Value)(e:Option Addr)(b ct:Value)(d:A0),d.length=ps.length->bindArgs (PySem.W.fnOf x x (rD st) (gR st) (zG st) .none kV a f e b ct) ⟨d,[]⟩=pure (ps.zip d)
def HE(D:DefM K mg x st)(d:Cy x st ps)(h: ∀f a,Fun K x x st f a->FnOk P w K mg base LD k f a ps (XS ⟨K,mg,P,w⟩ n F)):Uv P w K mg base x k n ps F:=
 let ⟨f,a,m,b⟩:=D.ex;⟨f,a,h f a b,m,b.kp,b.binds d⟩
def Jo(D:DefM K mg x st)(d:Cy x st ps)(h: ∀f a,Fun K x x st f a->FnOk P w K mg base (YJ P w) k f a ps (Kk ⟨K,mg,P,w⟩ n F)):Jn P w K mg base x k n ps F:=
 let ⟨f,a,m,b⟩:=D.ex;⟨f,a,h f a b,m,b.kp,b.binds d⟩
def Cal.noX(G:Jn P w K mg base x k n ps F):Uv P w K mg base x k n ps F:=let ⟨d,e,G,m,a,b⟩:=G.ex;⟨d,e,G.noX,m,a,b⟩
def E7{l:PySem.W.OpenLaw}(D:DefM K mg x st)(b:mg x=some (.ref fa))(q: ∀ kV d o  n  e j  s  v ,BindsTo s (PySem.W.fnOf x x (rD st) (gR st) (zG st) .none kV d o n e j) ⟨[v],[]⟩ [(p,v)])
  (h: ∀base f a,Fun K x x st f a->FnOk l.prog w K mg base LD k f a [p] (XS ⟨K,mg,l.prog,w⟩ 1 F)):
  ∃a:FuncData,(∀ s  v ,BindsTo s a ⟨[v],[]⟩ [(p,v)])/\ ∀base:Heap,K.In base->base.Ns mainGlobals mg->FnOk l.prog w K mg base LD k fa a [p] (SU K F):=by
 obtain⟨f,a,m,i⟩:=D.ex;rw[b]at m;cases m;refine⟨a,?_,λbase _ _=>(h base fa a i).imp λr H Q E=>Mw (g:=⟨K,mg,_,w⟩) r H Q E⟩;obtain⟨_,_,_,_,_,_,_,_,_,rfl,_,_⟩:=i.ex;exact q _ _ _ _ _ _
end
section
variable{W:XW}{p pos:Pos}
def zL(G:Uv X.prog X.w X.K X.mg X.base x k n ps F)(f:Room k X.A)(h:Gl X x)(o:IW X W (e::es) af)(a:(x==("__debug__"))=false:=by decide)
  (he:q8 X e es:=by rfl) (hpl:q9 X pos es:=by rfl):yF X W (.Call (.Name x p) (e::es) [] pos) (λj S=>(af j S).bind λq d=>yC n F q d):=
 let ⟨_,_,G,m,i,b⟩:=G.ex;Eu G f h m i b o a he hpl
def EN(j:XOk X E)(G:Jn X.prog X.w X.K X.mg X.base x k n ps F)(f:Room k X.A)(h:Gl X x)(q:IW X (WE X.g E) (e::es) af)(a:(x==("__debug__"))=false:=by decide)
  (he:q8 X e es:=by rfl) (hpl:q9 X pos es:=by rfl):yF X (WE X.g E) (.Call (.Name x p) (e::es) [] pos) (λo S=>(af o S).bind λr d=>jV n F r d):=
 let ⟨_,_,G,m,i,b⟩:=G.ex;Nn j G f h m i b q a he hpl
variable{i:Nat}{nm:Str}{mp hpos cpos epos:Pos}
def Oh(T:XTab X.K X.mg M cs)(q:Gl X "MendError")(D:X.N.Nodup)(G:Jn X.prog X.w X.K X.mg X.base x k n ps F)(y:Room k X.A)(r:Gl X x)(C:IW X.nox W0 (e::es) af)(a: ∀v,JH (X.inH v) W0 (b0::suite) Fh)(f:cs.map (·.1)=ns:=by rfl)(hi:X.N[i]? =some nm:=by rfl)(t:X.env.kindOf nm=some .local:=by rfl)(h:X.ex=[]:=by rfl)(d:X.stack=X.env::X.outer:=by rfl)(o:X.env.frame=some X.env.locals:=by rfl)
  (hdb:(x==("__debug__"))=false:=by decide) (he:q8 X e es:=by rfl) (hpl:(backTo cpos (starEach es X.env)).any (·.1)=false:=by rfl) (hs:swapsWith (.Call (.Name x p) (e::es) [] cpos) none epos.line X.env=pure false:=by rfl):
  Eo X W (.Try [.Expr (.Call (.Name x p) (e::es) [] cpos) epos] [.ExceptHandler (some (.Name "MendError" mp)) (some nm) (b0::suite) hpos] [] [] pos)
   (λj S=>(noX (af j S)).bind λu B=>Co ns i (λ_ z=>.ok (.next j) z) Fh j (jV n F u B)):=
 let ⟨_,_,G,m,s,b⟩:=G.ex;Ug T q D G y r m s b C a f hi t h d o hdb he hpl hs
end
end M
end L2
namespace L2
open PySem PySem.Spec PyProof.Rows
structure RoomH(k:Nat)(A:Around):Prop where
 dp:A.depth+3 * k+5<recursionLimit
 un:A.units+16 * k+200<cLine
theorem RoomH.mono(r:RoomH k A)(h:j<=k):RoomH j A:=⟨by have:=r.dp;lia,by have:=r.un;lia⟩
theorem RoomH.deeper(r:RoomH (k+1) A)(env):RoomH k (A.deeper env):=
 ⟨by have:=r.dp;show A.depth+1+3 * k+5<_;lia,by have:=r.un;show A.units+3+16 * k+200<_;lia⟩
def RoomH.depth(r:RoomH k A):A.depth<recursionLimit:=by have:=r.dp;omega
def RoomH.units(r:RoomH k A):A.units+64<cLine:=by have:=r.un;omega
def Room.inH(r:Room k A)(v:Hv):RoomH k (A.mark (some (.ref v.e))):=⟨r.dp,r.un⟩
structure FnOkH(P:Ķ)(w:World)(K:P0)(mg:K0)(base:Heap)(k:Nat)(f:Addr)(fd:FuncData)(ps:C0)(sp:Sp):Prop where
 len: ∀vs H Q E,sp vs H Q E->vs.length=ps.length
 run: ∀(A:Around)(outer:List Env)(s:Ĵ)(H:Hp)(args:Args)(us:A0)(vs:List V)(Q:VK)(E:XK),RoomH k A->HdA A H->Env0 P w K mg base A outer s H->BindsTo s fd args (ps.zip us)->Vals vs us->sp vs H Q E->
  codeAny (model P w) A (.call (.ref f) args) (CR LD outer P w H s Q E) s
def X2(P:Ķ)(w:World)(K:P0)(mg:K0)(base:Heap)(N:C0)(b:Str)(a:Scope)(f:Addr)(d:ĵ)(A:Around)(outer:List Env)(s:Ĵ)(H:Hp):Cx:={LZ LD P w K mg base N b a f d A outer s H E0 with calm:=false,xe:=λ_ _=>False}
section
variable{K:P0}{s1:Ĵ}
def X3(fr:A.frames=some outer)(I:Inv (LZ LD P w K mg base N qual scope f cdv {A with handled:=none} outer s H E0) [] σ H s1):Inv (X2 P w K mg base N qual scope f cdv A outer s H) [] σ H s1:=
 ⟨⟨I.ok.mod,I.ok.kind,I.ok.glob,I.ok.blt,I.ok.above,I.ok.inj,I.ok.has,I.ok.cab,λz=>(by cases z),Around.frames_deeper fr,I.ok.stk,I.ok.exf,I.ok.bs,I.ok.bsz,I.ok.noex,I.ok.exfs,I.ok.funs,I.ok.frf⟩,I.os,I.bare,I.base,I.loc,I.cell,I.free,I.freeC,I.pin,I.hok,I.len⟩
def E8{st:Stmt}(Fu:Fun K x qual st f fd)(S:FnScope N ps (zG st))(len: ∀j H Q E,sp j H Q E->j.length=ps.length)
  (hbody: ∀ h  A  a  s  H  j  Q  E ,RoomH k (A.deeper (envOfC qual (zG st) ↑0 f h))->HdA A H->sp j H Q E->
   ∃t,PSs (X2 P w K mg base N qual (zG st) f h A a s H) (gR st) t/\t {nx:=λ_ H'=>Q .non H',rt:=Q} (start N j) H):FnOkH P w K mg base (k+1) f fd ps sp:=by
 obtain⟨oc,od,kV,aa,pm,an,h,ct,T,rfl,U,F⟩:=Fu.ex;refine⟨len,λA a s H L O j Q E G hh d hb r z=>?_⟩;have hl:=len _ _ _ _ z;have KX:K.In s.heap:=d.mod.kin.keeps λb o e=>(d.bs b o e).1;have D:s.heap.NoLimit:=d.mod.nolimit.keeps λb o e=>(d.bs b o e).1
 have m: ∀y∈ps.zip O,(zG st).names.lookup y.1=some .local\/((zG st).names.lookup y.1=some .cell/\((cellsFrom (↑0+1) (zG st).names []).lookup y.1).isSome=true):=λ⟨n,v⟩ Y=>by
  rcases S.par n (of_mem_zip Y).1 with q|q
  .exact .inl q
  .exact .inr ⟨q,PySem.W.cellsFrom_some _ _ _ (.inl q)⟩
 refine codeAny_call_function G.depth (KX _ _ U) rfl S.co S.gen rfl (PySem.W.codeRec_of KX F) (hb _ _ _ _ ?_);refine wpAny_newFunctionEnv_cells S.kind m λab X s1 x=>?_;subst X;refine⟨D.keeps x.toInCall.keep,codeAny_func ?_⟩;obtain⟨t,ht,Z⟩:=hbody h A a s H j Q E (G.deeper _) hh z;have M:Env0 P w K mg base {A with handled:=none} a s H:=⟨d.frames,d.mod,d.bs,d.bsz,d.funs,d.frf,d.hok,d.bare⟩
 have I:=X3 d.frames (RU S rfl M hl r x);refine ó (ht [] s1 _ H _ I Z) (λfl C hs=>?_) λe C hs=>hs.elim
 have p: ∀{i:St}{H':Hp}{v:V}{u:ĵ},Inv (X2 P w K mg base N qual (zG st) f h A a s H) [] i H' C->RelV v u->Q v H'->CE a P w H s Q u C:=
  λ{i H' v u} J B q=>⟨v,H',J.os,J.bare,J.base,J.hok,B,q⟩
 cases fl with
 |ret u=>
  obtain⟨v,i,H',J,B,q⟩:=hs;exact p J B q
 |next=>
  obtain⟨i,H',J,q⟩:=hs;exact p (v:=V.non) J rfl q
 |brk=>
  obtain⟨_,_,_,q⟩:=hs;exact False.elim q
 |cont=>
  obtain⟨_,_,_,q⟩:=hs;exact False.elim q
end
namespace M
section
variable{P:Ķ}{w:World}{K:P0}{mg:K0}{base:Heap}{x:Str}{st:Stmt}{ps:C0}{k n:Nat}{F:List MV->Sto->R Er}
structure CalH(P:Ķ)(w:World)(K:P0)(mg:K0)(base:Heap)(x:Str)(k n:Nat)(ps:C0)(F:List MV->Sto->R Er):Prop where
 ex: ∃fa fd,FnOkH P w K mg base k fa fd ps (XS ⟨K,mg,P,w⟩ n F)/\mg x=some (.ref fa)/\PySem.W.keepIn K (.ref fa)=true/\Binds K fd ps []
def okH(Fb)(B:Fun K x x st f fd)(p:FnScope N ps (zG st))
  (hbody: ∀ b  A  a  s  H ,RoomH k (A.deeper (envOfC x (zG st) ↑0 f b))->zAI (X2 P w K mg base N x (zG st) f b A a s H)->JH (X2 P w K mg base N x (zG st) f b A a s H) W0 (gR st) Fb):
  FnOkH P w K mg base (k+1) f fd ps (XS ⟨K,mg,P,w⟩ ps.length λi S=>xF (Fb (zU N i) S)):=by
 refine E8 B p (λC H Q E h=>?_) (λb A a s H C Q E o n h=>?_)
 .obtain⟨α,S,i,_,l,j,_⟩:=h;rw[l.length,j]
 .obtain⟨α,S,i,wd,l,j,q⟩:=h;obtain⟨t,y,u⟩:=hbody b A a s H o n;refine⟨t,y,u α _ S _ H _ wd (BU l) ?_⟩;dsimp only at q
  cases z:Fb _ S with
  |ok fl S'=>
   rw[z]at q
   cases fl with
   |next ρ=>exact λσ α' H' e d D=>q .non α' H' e d (DenE.val rG)
   |ret r=>exact λv α' H' e d m=>q v α' H' e d m
   |brk ρ=>exact q.elim
   |cont ρ=>exact q.elim
  |exc c fs S'=>rw[z]at q;exact λα' H' e d=>(q α' H' e d).elim
  |no=>rw[z]at q;exact q
def okCH(D:DefM K mg x st)(d:Cy x st ps)(h: ∀f a,Fun K x x st f a->FnOkH P w K mg base k f a ps (XS ⟨K,mg,P,w⟩ n F)):CalH P w K mg base x k n ps F:=
 let ⟨f,a,m,b⟩:=D.ex;⟨f,a,h f a b,m,b.kp,b.binds d⟩
end
section
variable{p pos:Pos}
def Jp(G:CalH X.prog X.w X.K X.mg X.base x k n ps F)(E:RoomH k X.A)(T:Gl X x)(v:IW X W (e::es) af)(U:zAI X:=by exact W5)(o:(x==("__debug__"))=false:=by decide)
  (he:q8 X e es:=by rfl) (hpl:q9 X pos es:=by rfl):yF X W (.Call (.Name x p) (e::es) [] pos) (λj S=>(af j S).bind λB z=>yC n F B z):=by
 obtain⟨fa,fd,G,m,D,b⟩:=G.ex;obtain⟨t,v,J⟩:=v;refine⟨λσ H Q=>t σ H λf i=>XS X.g n F f i Q E0,λpins s σ H Q I h=>?_,λα j S σ H Q wd O q=>J α j S σ H _ wd O (q.bind λf B z Z i e1 L Y P M=>SO L Y P M)⟩;refine ı (rC I T m ?_ o);refine PySem.W.callWith_K I.ok.mod.kin D (kL (v pos pins s σ H _ I h) λd s1 ⟨f,i,I1,r,q⟩=>⟨I1.kIn,?_⟩) he hpl;have N:d.length=ps.length:=by rw[<-r.length];exact G.len _ _ _ _ q
 have C:=b s1 d I1.kIn (by rw[aN];exact N);rw[aN]at C;refine wpAny_call (đ (G.run X.A X.stack s1 i ⟨d,[]⟩ d f Q E0 E (U.now I1) I1.env0 C r q) λr s' a=>?_)
 cases r with
 |error y=>exact a.elim
 |ok fl=>
  cases fl with
  |ret u=>exact I1.after a
  |next=>exact False.elim a
  |brk=>exact False.elim a
  |cont=>exact False.elim a
end
noncomputable def X4(a:X0)(S:Sto):R Er:=.ok (.val (.loc ↑5)) (S++[.dic a])
section
def vJ(i:Nat)(ρ:Rho)(S:Sto):R Er:=Sk (ρ[i]?) S
noncomputable def kJ(d:MV)(_:Rho)(S:Sto):R Er:=.ok (.val d) S
noncomputable def bJ(f:Rho->Sto->R α)(F:α->Sto->R β)(ρ:Rho)(S:Sto):R β:=(f ρ S).bind F
noncomputable def dJ(F:Er->Er->Sto->R Er)(f g:AX)(ρ:Rho)(S:Sto):R Er:=(f ρ S).bind λp S=>(g ρ S).bind λq S=>F p q S
def nJ(f:AX)(ρ:Rho)(S:Sto):R Er:=(f ρ S).bind λp S=>(bC p S).bind λk S=>.ok (.val (.bl !k)) S
def aJ(f g:AX)(ρ:Rho)(S:Sto):R Er:=(f ρ S).bind λp S=>QR p S λS=>g ρ S
def oJ(f g:AX)(ρ:Rho)(S:Sto):R Er:=(f ρ S).bind λp S=>orF p S λS=>g ρ S
noncomputable def iJ(c:AZ)(f g:Rho->Sto->R α)(ρ:Rho)(S:Sto):R α:=(c ρ S).bind λk S=>if k=true then f ρ S else g ρ S
noncomputable def mJ(_:Rho)(S:Sto):R (Option Int):=.ok none S
noncomputable def tJ(F:Er->Option Int->Option Int->Sto->R Er)(f:AX)(g h:Rho->Sto->R (Option Int))(ρ:Rho)(S:Sto):R Er:=(f ρ S).bind λp S=>(g ρ S).bind λl S=>(h ρ S).bind λu S=>F p l u S
def lJ(k:X0)(_:Rho)(S:Sto):R Er:=X4 k S
def zJ(_:Rho)(S:Sto):R Er:=Nh S
def fJ(n:Nat)(F:List MV->Sto->R Er)(a:Rho->Sto->R (List Er))(ρ:Rho)(S:Sto):R Er:=(a ρ S).bind λr S=>yC n F r S
def xJ(n:Nat)(F:List MV->Sto->R Er)(a:Rho->Sto->R (List Er))(ρ:Rho)(S:Sto):R Er:=(a ρ S).bind λr S=>jV n F r S
def hJ(F:List MV->Sto->R Er)(_:Rho)(S:Sto):R Er:=yC 0 F [] S
noncomputable def eJ(t:Er->Sto->Bool)(F:Er->List Er->Sto->R Er)(f:AX)(a:Rho->Sto->R (List Er))(ρ:Rho)(S:Sto):R Er:=(f ρ S).bind λp S=>if t p S=true then(a ρ S).bind λr S=>F p r S else .no
noncomputable def gJ(t:Er->Sto->Bool)(F:Er->List Er->Sto->R Er)(f:AX)(ρ:Rho)(S:Sto):R Er:=(f ρ S).bind λp S=>if t p S=true then F p [] S else .no
noncomputable def uJ(_:Rho)(S:Sto):R Bool:=.ok true S
def pJ(i:Rho->Sto->R Wk)(g:MV->Rho->Sto->R Rho)(c:AZ)(e:AX)(n:Nat)(I:Db)(ρ:Rho)(S:Sto):R Er:=(i ρ S).bind λk S=>if k.ds.length<1000000 then(xV g c e (vD n I ρ) k.gs k.ds S).bind λo S=>.ok (.new o) S else .no
def jJ(F G:Er->Er->Sto->R Er)(f g h:AX)(ρ:Rho)(S:Sto):R Er:=(f ρ S).bind λp S=>(g ρ S).bind λq S=>JG F G p q S λS=>h ρ S
noncomputable def qJ(f:AZ)(ρ:Rho)(S:Sto):R Bool:=(f ρ S).bind λk S=>.ok (!k) S
noncomputable def rJ(f g:AZ)(ρ:Rho)(S:Sto):R Bool:=(f ρ S).bind λk S=>if k=true then g ρ S else .ok false S
noncomputable def sJ(f g:AZ)(ρ:Rho)(S:Sto):R Bool:=(f ρ S).bind λk S=>if k=true then .ok true S else g ρ S
noncomputable def wJ(_:Rho)(S:Sto):R (List Er):=.ok [] S
noncomputable def yJ(f:AX)(g:Rho->Sto->R (List Er))(ρ:Rho)(S:Sto):R (List Er):=(f ρ S).bind λp S=>(g ρ S).bind λl S=>.ok (p::l) S
noncomputable def AJ(f:AX)(ρ:Rho)(S:Sto):R Fl:=(f ρ S).bind λr S=>.ok (.ret r) S
noncomputable def BJ(f:AX)(ρ:Rho)(S:Sto):R Fl:=(f ρ S).bind λ_ S=>.ok (.next ρ) S
def CJ(f:AX)(i:Nat)(ρ:Rho)(S:Sto):R Fl:=(f ρ S).bind (MC ρ i)
noncomputable def DJ(F:Er->Er->MV->Rho->Sto->R Rho)(f g:AX)(d:MV)(ρ:Rho)(S:Sto):R Rho:=(f ρ S).bind λp S=>(g ρ S).bind λq S=>F p q d ρ S
def EJ(f:AX)(g:MV->Rho->Sto->R Rho)(ρ:Rho)(S:Sto):R Fl:=(f ρ S).bind (Sn g ρ)
def FJ(i:Rho->Sto->R Wk)(g:MV->Rho->Sto->R Rho)(b:AY)(ρ:Rho)(S:Sto):R Fl:=(i ρ S).bind λk S=>bA g b k.gs k.ds ρ S
noncomputable def GJ(a:Rho->Sto->R (List Er))(c:Str)(ρ:Rho)(S:Sto):R Fl:=(a ρ S).bind λr S=>if r.length<=10 then .exc c [] S else .no
def HJ(b:C0)(i:Nat)(h:AY)(n:Nat)(F:List MV->Sto->R Er)(a:Rho->Sto->R (List Er))(ρ:Rho)(S:Sto):R Fl:=(noX (a ρ S)).bind λr S=>Co b i (λ_ S=>.ok (.next ρ) S) h ρ (jV n F r S)
def IJ(b:C0)(i j:Nat)(h:AY)(n:Nat)(F:List MV->Sto->R Er)(a:Rho->Sto->R (List Er))(ρ:Rho)(S:Sto):R Fl:=(noX (a ρ S)).bind λr S=>Co b i (MC ρ j) h ρ (jV n F r S)
noncomputable def JJ(ρ:Rho)(S:Sto):R Fl:=.ok (.next ρ) S
end
section
variable{p:Pos}
def augF(F:Er->Er->Sto->R Er)(i:Nat)(f:AX)(ρ:Rho)(S:Sto):R Fl:=(Sk (ρ[i]?) S).bind λp b=>(f ρ b).bind λq a=>(F p q a).bind (MC ρ i)
end
def KJ(n:Nat)(F:List MV->Sto->R Er)(a:Rho->Sto->R (List Er))(ρ:Rho)(S:Sto):R Er:=(noX (a ρ S)).bind λr S=>jV n F r S
def LJ(c:AZ)(f g:AX)(ρ:Rho)(S:Sto):R Er:=(noX (c ρ S)).bind λk S=>if k=true then f ρ S else g ρ S
def MJ(a:C0)(i:Nat)(h:AY)(f:AX)(ρ:Rho)(S:Sto):R Fl:=Co a i (λ_ S=>.ok (.next ρ) S) h ρ (f ρ S)
end M
end L2
namespace L2
open PySem PySem.Spec PyProof.Rows
namespace M
structure OC(K:P0)(c:Str)(C:Addr):Prop where
 ns:PySem.W.nsIn K mainGlobals c=some (some (.ref C))
 nm:(PySem.W.clsIn K C).map (·.name)=some c
 cl:Cls K C
section
variable{p:Pos}
def selM(m:Str)(l:List (Str×(List MV->Sto->R Er))):Er->Option (List MV->Sto->R Er)
 |.val (.obj c ns _)=>if m∈ns then none else l.lookup c
 |_=>none
def NJ(m:Str)(n:Nat)(l:List (Str×(List MV->Sto->R Er)))(f:AX)(af:Rho->Sto->R (List Er))(ρ:Rho)(S:Sto):R Er:=(f ρ S).bind λp S=>match selM m l p with
 |some F=>(af ρ S).bind λr S=>yC n F (p::r) S
 |none=>.no
end
noncomputable def yX(y:Db):List (List Nat)->List Nat
 |[]=>[]
 |[x]=>x
 |x::r=>x++y++yX y r
theorem OY(y): ∀a:List (List Nat),Str.join (yZ y) (a.map yZ)=yZ (yX y a)
 |[]=>rfl
 |[x]=>rfl
 |x::z::r=>by show yZ x++yZ y++Str.join _ _=yZ (x++y++yX y _);rw[OY y _,UR,UR]
theorem Fx{y:Str}: ∀(l:C0) n k ,(∀z∈l,z.length+y.length<=1000)->l.length<=k->l.foldl (λa z=>a+z.length+y.length) n<=n+1000 * k
 |[],n,k,_,_=>Nat.le_add_right _ _
 |z::l,n,0,_,h=>by simp at h
 |z::l,n,k+1,hz,h=>by
  rw[List.foldl_cons];have d:=Fx l (n+z.length+y.length) k (λw hw=>hz w (mO _ hw)) (by simpa using h);have b:=hz z mF0
  lia
theorem joinOk_of{a:Ch}(f:y.length<=100)(d:a.length<=1000)(b: ∀z∈a,z.length<=900):JoinOk (yZ y) (a.map yZ)=true:=by
 unfold JoinOk;rw[Bool.not_eq_true'];unfold Builtin.Str.tooLong;rw[List.foldl_toArray]
 have:=Fx (y:=yZ y) (a.map yZ) 0 1000 (λz e=>by
  obtain⟨w,hw,rfl⟩:=mM0.mp e;have:=b w hw;rw[wD,wD]
  lia) (by rw[lM0];exact d)
 rw[ý]
 lia
noncomputable def sK:List MV->Option (List (List Nat))
 |[]=>some []
 |.str x::ds=>(sK ds).map (x::·)
 |_::_=>none
theorem Fy{K:P0}: ∀{ds}{f}{j}{h},sK ds=some f->DenL K α H ds j->Vals j h-> ∃l:List (Str×Tok),h=strValues l/\l.map (·.1)=f.map yZ
 |[],f,j,h,e,d,r=>by cases e;rw[d.isnil]at r;cases r;exact⟨[],rfl,rfl⟩
 |x::ds,f,j,h,e,d,r=>by
  obtain⟨v,o,rfl,m,k⟩:=d.uncons
  cases r with
  |cons a b=>
   cases x<;>first |(cases e)|skip
   rename_i i;unfold sK at e
   cases z:sK ds with
   |none=>rw[z]at e;cases e
   |some ms=>
    rw[z]at e;cases e;cases kM m;obtain⟨t,rfl⟩:=a;obtain⟨l,rfl,n⟩:=Fy z k b;exact⟨(yZ i,t)::l,rfl,by rw[è,n];rfl⟩
section
variable{e:Expr}{apos pos:Pos}
def Uw:Wp X "str.join" (λx xs H Q=> ∃y l d e a α,x=.str (yZ y)/\xs=[.ref l]/\SqL X.K H l d/\sK e=some a/\DenL X.K α H e d/\(y.length<=100/\a.length<=1000/\ ∀z∈a,z.length<=900)/\Q (.str (yZ (yX y a))) H):=by
 intro pins s σ H x xs v C Q I w A h;obtain⟨y,l,d,e,a,α,rfl,rfl,r,o,n,b,q⟩:=h;obtain⟨t,rfl⟩:=w;obtain⟨u,rfl,B⟩:=vals1 A;cases B;obtain⟨m,i,p,_⟩:=I.list r;obtain⟨ps,rfl,j⟩:=Fy o n i;refine PySem.SC.join p.isList j (joinOk_of b.1 b.2.1 b.2.2) λf k=>⟨.str _,H,I.tok _,⟨f,?_⟩,q⟩
 show Value.str (Builtin.Str.glued _ _) f=_;rw[StrLaws.glued_eq_join,OY]
open Classical in
def oF:Er->List Er->Sto->R Er
 |.val (.str y),[r],S=>match cJ S r with
  |some ds=>match sK ds with
   |some zs=>if y.length<=100/\zs.length<=1000/\ ∀z∈zs,z.length<=900 then .ok (.val (.str (yX y zs))) S else .no
   |none=>.no
  |none=>.no
 |_,_,_=>.no
def Ux:YO X W (λx xs H Q=> ∃y l f d b α,x=.str (yZ y)/\xs=[.ref l]/\SqL X.K H l f/\sK d=some b/\DenL X.K α H d f/\(y.length<=100/\b.length<=1000/\ ∀z∈b,z.length<=900)/\Q (.str (yZ (yX y b))) H) oF:=by
 intro p t x f α S u H Q q wd n i h a
 replace a:=a.shift n
 unfold oF at a;split at a
 .split at a
  .rename_i d e;split at a
   .rename_i b s;split at a
    .rename_i m;obtain⟨v,rfl,j⟩:=FK h;obtain⟨l,k,rfl,o,r⟩:=uQ rfl wd e j;exact⟨_,l,k,d,b,α,wA i,rfl,o,s,r,m,Post.val a wd (gT _)⟩
    .exact a.elim
   .exact a.elim
  .exact a.elim
 .exact a.elim
def IE(k:yF X W a f)(i:IW X W (e::es) af)
  (hbase:attributeBase a "join" X.env (eval a X.env)=eval a X.env:=by rfl)
  (hfew:((backTo pos (starEach (e::es) X.env)).all (λx=>!x.1)&&(backToKw pos (keywordEach [] X.env)).all (λx=>x.1.isSome)
   &&decide ↑7)=true:=by rfl)
  (hline:(apos.endLine==pos.line)=true:=by rfl) (hs:q8 X e es:=by rfl) (hplain:q9 X pos es:=by rfl):
  yF X W (.Call (.Attribute a "join" apos) (e::es) [] pos) (λd S=>(f d S).bind λp b=>if jE p b=true then(af d b).bind λj h=>oF p j h else .no):=
 vI PySem.F.plainAttrs_str PySem.F.slot_str_join PySem.F.type_str_join Uw Ux ty_str k i hbase hfew hline hs hplain
end
noncomputable def cK(c:Nat):List Nat->List (List Nat)
 |[]=>[[]]
 |a::x=>if a=c then []::cK c x else match cK c x with
  |[]=>[[a]]
  |p::r=>(a::p)::r
def JX(c): ∀x,cK c x≠[]
 |[]=>by simp[cK]
 |a::x=>by
  unfold cK;split
  .simp
  .split<;>simp
theorem ZK(c): ∀x,yX [c] (cK c x)=x
 |[]=>rfl
 |a::x=>by
  have b:=ZK c x;unfold cK;by_cases h:a=c
  .rw[iP h]
   cases hs:cK c x with
   |nil=>exact absurd hs (JX c x)
   |cons p r=>
    rw[hs]at b;show []++[c]++yX [c] _=_;rw[b,h];rfl
  .rw[iN0 h]
   cases hs:cK c x with
   |nil=>exact absurd hs (JX c x)
   |cons p r=>
    rw[hs]at b
    cases r with
    |nil=>show a::p=_;rw[show p=x from b]
    |cons q r=>show _++[c]++yX [c] _=_;rw[<-b];rfl
theorem ZL(c): ∀x, ∀p∈cK c x,c∉p
 |[],p,h=>by rw[show cK c []=[[]]from rfl,mS0]at h;rw[h];simp
 |a::x,p,h=>by
  have b:=ZL c x;unfold cK at h;split at h
  .rcases mC.mp h with rfl|h
   .simp
   .exact b p h
  .rename_i f;split at h
   .rename_i hs;exact absurd hs (JX c x)
   .rename_i q r hs;rw[hs]at b;rcases mC.mp h with rfl|h
    .intro d;rcases mC.mp d with e|d
     .exact f e.symm
     .exact b q mF0 d
    .exact b p (mO _ h)
theorem SY: ∀{p q a b:Db},c∉p->c∉q->p++c::a=q++c::b->p=q/\a=b
 |[],[],a,b,_,_,h=>by injection h with _ h;exact⟨rfl,h⟩
 |[],y::q,a,b,_,hq,h=>by injection h with h _;exact absurd (mC.mpr (.inl h)) hq
 |x::p,[],a,b,hp,_,h=>by injection h with h _;exact absurd (mC.mpr (.inl h.symm)) hp
 |x::p,y::q,a,b,hp,hq,h=>by
  injection h with h1 h2
  obtain⟨d,e⟩:=SY (λz=>hp (mO _ z)) (λz=>hq (mO _ z)) h2;exact⟨by rw[h1,d],e⟩
theorem ZM: ∀{P Q},P≠[]->Q≠[]->(∀p∈P,c∉p)->(∀q∈Q,c∉q)->yX [c] P=yX [c] Q->P=Q
 |[],_,h,_,_,_,_=>absurd rfl h
 |_,[],_,h,_,_,_=>absurd rfl h
 |[p],[q],_,_,_,_,h=>by rw[show p=q from h]
 |[p],q::q2::Q,_,_,hP,_,h=>by have h':p=q++[c]++yX [c] _:=h;exact absurd (by rw[h'];simp) (hP p mF0)
 |p::p2::P,[q],_,_,_,hQ,h=>by have h':p++[c]++yX [c] _=q:=h;exact absurd (by rw[<-h'];simp) (hQ q mF0)
 |p::p2::P,q::q2::Q,_,_,hP,hQ,h=>by have h':p++[c]++yX [c] _=q++[c]++yX [c] _:=h;rw[aA,aA]at h';obtain⟨b,d⟩:=SY (hP p mF0) (hQ q mF0) h';rw[b,ZM (by simp) (by simp) (λz a=>hP z (mO _ a)) (λz a=>hQ z (mO _ a)) d]
def ZN(h:P≠[])(a: ∀p∈P,c∉p):cK c (yX [c] P)=P:=ZM (JX _ _) h (ZL c _) a (ZK c _)
def SZ(x)(c):Txt.split (yZ x) (yZ [c])=(cK c x).map yZ:=by
 have a:=StrLaws.join_split (yZ x) (yZ [c]);have b:=StrLaws.split_free (yZ x) c;have f:=split_pos (yZ x) (yZ [c]);rw[Ej]at b;generalize Txt.split _ _=L at a b f
 obtain⟨P,rfl⟩: ∃P:List _,L=P.map yZ:=⟨L.map λs=>s.cps.toList,by
  rw[Ē];have:(yZ∘λs:Str=>s.cps.toList)=id:=funext λs=>by cases s;simp[yZ]
  rw[this,List.map_id]⟩
 rw[OY]at a;have d:=HL a;congr 1;rw[<-d]
 symm
 refine ZN (λe=>by rw[e]at f;simp at f) λp h=>?_;have:=b _ (mM0.mpr ⟨p,h,rfl⟩);rwa [vH]at this
section
variable{prog:Ķ}{w:World}{A:Around}{E:VP}{s:Ĵ}{x y:Str}{t u:Tok}{Q:VP}
open Builtin Builtin.Str in
def Cz(d:(y.length==0)=false)
  (hq: ∀l k,l.map (·.1)=Txt.split x y->Q (.ref ↑0) {s with heap:=s.heap.push {cls:=.type "list",data:=.seq (strValues l).toArray},toks:=k})
  (hsz:x.length<=sizeLine) (hsz2:(partsBetween x (occurrences x y 0 x.length (x.length+1)) y.length).length<=sizeLine):
  wpAny (model prog w) A (call (.builtin "str.split") [.str x t,.str y u]) Q E s:=by
 cases a:(decide (x.length<y.length) || decide (strKind x<strKind y))
 .cases b:(occurrences x y 0 x.length (x.length+1)).isEmpty
  .refine ħ F.slot_str_split (typeIs_str _ _ _) F.entry_str_split (F.args_str_split_2 _ _) (meets_str_split_sep x y t u a d b hsz hsz2) ?_;show wants Q E _ {s with toks:=_,heap:=s.heap.push {cls:=.type "list",data:=.seq (strsFrom s.toks (partsBetween x (occurrences x y 0 x.length (x.length+1)) y.length)).toArray}};rw[strsFrom_eq];exact hq (numbered s.toks _) _ ((numbered_texts _ _).trans ((iN0 (ne_true_of_eq_false a)).trans (iN0 (ne_true_of_eq_false b))).symm)
  .exact ħ F.slot_str_split (typeIs_str _ _ _) F.entry_str_split (F.args_str_split_2 _ _) (meets_str_split_not_found x y t u a d b)
    (hq [(x,t)] s.toks ((iN0 (ne_true_of_eq_false a)).trans (iP b)).symm)
 .exact ħ F.slot_str_split (typeIs_str _ _ _) F.entry_str_split (F.args_str_split_2 _ _) (meets_str_split_cannot_occur x y t u a)
   (hq [(x,t)] s.toks (iP a).symm)
end
section
variable{apos pos:Pos}
theorem TB: ∀{l}{ps:Ch},l.map (·.1)=ps.map yZ->Vals (ps.map λp=>V.str (yZ p)) (strValues l)
 |[],[],_=>.nil
 |[],_::_,h=>by cases h
 |_::_,[],h=>by cases h
 |(x,t)::l,p::ps,h=>by
  injection h with h1 h2
  cases h1;exact .cons ⟨t,rfl⟩ (TB h2)
theorem Oi:Wp X "str.split" (λx xs H Q=> ∃(z:Db)(c:Nat),x=.str (yZ z)/\xs=[.str (yZ [c])]/\z.length<=100000/\ ∀l,H l=none->Q (.ref l) (jL H l (.lst ((cK c z).map λp=>V.str (yZ p))))):=by
 intro pins s σ H x xs v y Q I j m h;obtain⟨z,c,rfl,rfl,A,q⟩:=h;obtain⟨t,rfl⟩:=j;obtain⟨u,rfl,n⟩:=vals1 m;obtain⟨r,rfl⟩:=n;have d:=by have:=split_le (yZ z) (yZ [c]);rwa [wD]at this
 have f:=ý;refine Cz (by rw[wD];rfl) (λl k e=>?_) (by rw[wD];lia) ?_
 .rw[SZ]at e
  have a:((cK c z).map λp=>V.str (yZ p)).length<=sizeLine:=by
   rw[SZ,lM0]at d;rw[lM0]
   lia
  refine⟨.ref ↑0,_,I.laid (λb o i=>hP0 _ i) (à _) (show ObjOk X.prog X.w _ _ _ (.lst _)from⟨a,strValues l,0,TB e,ä _ rfl⟩),rfl,q _ (I.hok.fresh (à _))⟩
 .rw[length_partsBetween];have:=StrLaws.occ_length_le (yZ z) (yZ [c]) 0 (yZ z).length ((yZ z).length+1);rw[wD]at this ⊢
  lia
def GK:Er->List Er->Sto->R Er
 |.val (.str z),[.val (.str [c])],S=>if z.length<=100000 then .ok (.new ((cK c z).map MV.str)) S else .no
 |_,_,_=>.no
theorem TC{K:P0}: ∀(ps:Ch),DenL K α H (ps.map MV.str) (ps.map λp=>V.str (yZ p))
 |[]=>xB
 |p::ps=>yW (gT p) (TC ps)
def Oj:YO X W (λx xs H Q=> ∃(z:Db)(c:Nat),x=.str (yZ z)/\xs=[.str (yZ [c])]/\z.length<=100000/\ ∀l,H l=none->Q (.ref l) (jL H l (.lst ((cK c z).map λp=>V.str (yZ p))))) GK:=by
 intro p n x q α S o H Q i wd h e d a
 replace a:=a.shift h
 unfold GK at a;split at a
 .split at a
  .rename_i j;obtain⟨v,rfl,f⟩:=FK d;have b:=wA e;have k:=wA f;exact⟨_,_,b,by rw[k],j,λl m=>Post.newl a wd m (TC _)⟩
  .exact a.elim
 .exact a.elim
def ZO(k:yF X W a f)(i:IW X W (e::es) af)
  (hbase:attributeBase a "split" X.env (eval a X.env)=eval a X.env:=by rfl)
  (hfew:((backTo pos (starEach (e::es) X.env)).all (λx=>!x.1)&&(backToKw pos (keywordEach [] X.env)).all (λx=>x.1.isSome)
   &&decide ↑7)=true:=by rfl)
  (hline:(apos.endLine==pos.line)=true:=by rfl) (hs:q8 X e es:=by rfl) (hplain:q9 X pos es:=by rfl):
  yF X W (.Call (.Attribute a "split" apos) (e::es) [] pos) (λd S=>(f d S).bind λp b=>if jE p b=true then(af d b).bind λj h=>GK p j h else .no):=
 vI PySem.F.plainAttrs_str PySem.F.slot_str_split PySem.F.type_str_split Oi Oj ty_str k i hbase hfew hline hs hplain
end
def shrC(i j:Int):Prop:=0<=j
instance(i j:Int):Decidable (shrC i j):=inferInstanceAs (Decidable (_<=_))
def Jq(S:Sto)(d:MV)(ds:R0):Nat:=ds.countP λx=>(eqv S zR x d).getD false
open Classical in
def TD(p:Er)(rs:List Er)(S:Sto):R Er:=match rs with
 |[.val d]=>match cJ S p with
  |some ds=>if∀x,x∈ds->eR x=true/\(eqv S zR x d).isSome=true then .ok (.val (.int (Jq S d ds:Nat))) S else .no
  |none=>.no
 |_=>.no
section
variable{pos apos:Pos}
theorem Uy(hu:X.A.units+64<cLine):Wp X "list.count" (λx xs H Q=> ∃α S l D a d y,x=.ref l/\xs=[y]/\Wd X.g α S H/\SqL X.K H l D/\DenL X.K α H a D/\Den X.K α H d y/\(∀x,x∈a->eR x=true/\(eqv S zR x d).isSome=true)/\Q (.int (Jq S d a)) H):=by
 intro pins s σ H x xs v us Q I rx rs h;obtain⟨α,S,l,D,a,d,y,rfl,rfl,wd,sq,t,dd,N,q⟩:=h;cases rx;obtain⟨u,rfl,Z⟩:=rs.one;obtain⟨b,r,⟨o,n,O,T,C,hd⟩,hz⟩:=I.list sq;obtain⟨P,Y,ab,aa⟩:=o;subst T hd C;have B:=λx U=>(N x U).1
 have i: ∀m (e:m<b.length), ∃x,a[m]? =some x/\JT X.K α H a b[m]=x:=λm e=>by
  have j:m<a.length:=by rw[<-t.length,r.length];exact e
  exact⟨a[m],gE j,Nt I B t r (gE e) (gE j)⟩
 have f:b.map (JT X.K α H a)=a:=by refine List.ext_getElem (by rw[lM0, <-r.length,t.length]) λm k E=>?_;rw[List.getElem_map];obtain⟨x,M,e2⟩:=i m (by rw[lM0]at k;exact k);rw[e2];rw[gE E]at M;exact(å M).symm
 have p:b.toArray.toList.countP (λw=>(eqv S zR (JT X.K α H a w) d).getD false)=Jq S d a:=by
  unfold Jq
  conv=>rhs;rw[<-f,List.countP_map]
  rfl
 refine ħ PySem.F.slot_list_count ⟨_,O,rfl⟩ PySem.F.entry_list_count (PySem.F.args_list_count_2 _ _)
  (SeqAt.list_countAt l b.toArray n _ _ u (λw=>(eqv S zR (JT X.K α H a w) d).getD false)) ⟨O,λw hw=>?_,?_⟩
 .have z:=by simpa using hw
  obtain⟨m,e,rfl⟩:=List.mem_iff_getElem.mp z;obtain⟨L,k,E⟩:=i m e;obtain⟨xv,W,h4⟩:=t.at k;obtain⟨w',J,h6⟩:=r.get W;rw[gE e]at J;cases J;have hs:=(N L (ô k)).2;obtain⟨kk,G⟩:=č.mp hs;show SeqAt.EqAt _ _ _ _ _;rw[E,G];exact JM I wd zR X.A.in1 L d xv y _ _ kk (by unfold zR;show X.A.units+1+40<cLine;lia) h4 dd h6 Z G
 .rw[p];exact⟨.int _,H,I.tok _,⟨_,rfl⟩,q⟩
def Uz:YO X W (λx xs H Q=> ∃α S l e b d y,x=.ref l/\xs=[y]/\Wd X.g α S H/\SqL X.K H l e/\DenL X.K α H b e/\Den X.K α H d y/\(∀x,x∈b->eR x=true/\(eqv S zR x d).isSome=true)/\Q (.int (Jq S d b)) H) TD:=by
 intro p r x e α S s H Q q wd o i h a
 replace a:=a.shift o
 unfold TD at a;split at a
 .split at a
  .rename_i b f;split at a
   .rename_i n;obtain⟨v,rfl,j⟩:=FK h;obtain⟨l,xs,rfl,m,k⟩:=uQ rfl wd f i;exact⟨α,S,l,xs,b,_,v,rfl,rfl,wd,m,k,j,n,Post.val a wd (xD _)⟩
   .exact a.elim
  .exact a.elim
 .exact a.elim
def Va(i:X.A.units+64<cLine)(m:yF X W a f)(j:IW X W (e::es) af)
  (hbase:attributeBase a "count" X.env (eval a X.env)=eval a X.env:=by rfl)
  (hfew:((backTo pos (starEach (e::es) X.env)).all (λx=>!x.1)&&(backToKw pos (keywordEach [] X.env)).all (λx=>x.1.isSome)
   &&decide ↑7)=true:=by rfl)
  (hline:(apos.endLine==pos.line)=true:=by rfl) (hs:q8 X e es:=by rfl) (hplain:q9 X pos es:=by rfl):
  yF X W (.Call (.Attribute a "count" apos) (e::es) [] pos) (λd S=>(f d S).bind λp b=>if eQ p b=true then(af d b).bind λk h=>TD p k h else .no):=
 vI PySem.F.plainAttrs_list PySem.F.slot_list_count PySem.F.type_list_count (Uy i) Uz Ci m j hbase hfew hline hs hplain
end
section
variable{K:Type}[DecidableEq K]
def TSet(knd:KeyKind prog w K)(h:Heap)(a:Addr)(S:K->Bool)(n:Nat)(b:Bool):Prop:=
 ∃o es d t,h.get? a=some o/\o.ExactSet/\o.data=.set es d t/\ElemsOf knd es.toList/\(∀k,S k=true↔ ∃e∈es.toList,knd.is k e.2=true)
  /\es.size<scanBound/\t.fits es.size=true/\es.size=n/\t.led=b/\(es.size=0\/t.plain=false)/\(es.toList.map (·.2)).Pairwise (λx y=> ∀k,knd.is k x=true-> ¬knd.is k y=true)
end
noncomputable abbrev byT(w:World):Bool:=w.params.followText "set-order"
abbrev X5(P:Program)(w:World)(h:Heap)(D:Addr)(val:Nat->Key)(i:Nat):Prop:=TSet (dB P w) h D (λk=>Oa k (uT val i)) (uT val i).length (!byT w)
def StrT(val:Nat->Key)(i:Nat)(v:ĵ):Prop:= ∃x t,val i=.inr x/\v=.str x t
def StrT.is(h:StrT val i v):(dB P w).is (val i) v=true/\v.scannable=true/\plainKind v=false:=by obtain⟨x,t,e,rfl⟩:=h;rw[e];exact⟨BN P w x t,rfl,rfl⟩
def SetAt(h:Heap)(D:Addr)(es:Array (Int×ĵ))(a:Nat)(t:SetTable):Prop:= ∃o,h.get? D=some o/\o.ExactSet/\o.data=.set es a t/\t.fits es.size=true
def SetAt.keep(x:SetAt h D es ep t)(m: ∀o,h.get? D=some o->h'.get? D=some o):SetAt h' D es ep t:=by obtain⟨o,a,r⟩:=x;exact⟨o,m o a,r⟩
end M
end L2
namespace L2
open PySem PySem.Spec PyProof.Rows
variable{H:Hp}
namespace M
def setT(P:Ķ)(w:World)(l:Addr)(a:Ch):HO:=.ext λh=>X5 P w h l (Od a) a.length
section
variable{C:Addr}
theorem DenF.len{K:P0}: ∀{fs gs},DenF K α H fs gs->gs.length=fs.length
 |_,_,.nil=>rfl
 |_,_,.cons b l=>by rw[lC0,lC0,DenF.len l]
def RMt(P:Ķ)(w:World)(K:P0)(mg:K0)(base:Heap)(m:Str)(k n:Nat)(c:Str)(F:List MV->Sto->R Er):Prop:= ∃C a b ps,OC K c C/\Meth K C m a/\FnOk P w K mg base LD k a b ps (XS ⟨K,mg,P,w⟩ n F)/\Binds K b ps []
end
def KX(l:Bool)(K:P0)(α:B9)(H:Hp)(d:MV)(v:V):Prop:=if l=true then∃es a b,d=.tup es/\v=.ref a/\H a=some (.lst b)/\a∉α/\DenL K α H es b else Den K α H d v
inductive KXL(l:Bool)(K:P0)(α:B9)(H:Hp):List MV->List V->Prop
 |nil:KXL l K α H [] []
 |cons {d v ds vs}:KX l K α H d v->KXL l K α H ds vs->KXL l K α H (d::ds) (v::vs)
section
variable{K:P0}
def KX.ext(x:Ext α H α H')(h:KX l K α H d v):KX l K α H' d v:=by
 cases l with
 |true=>obtain⟨es,a,f,b,e,h,n,l⟩:=h;exact⟨es,a,f,b,e,x.keep a _ h n,n,DenL.ext x l⟩
 |false=>exact Den.ext x h
theorem KXL.ext(x:Ext α H α H'): ∀{ds}{a},KXL l K α H ds a->KXL l K α H' ds a
 |_,_,.nil=>.nil
 |_,_,.cons h t=>.cons (h.ext x) (KXL.ext x t)
theorem KXL.length: ∀{ds}{a},KXL l K α H ds a->a.length=ds.length
 |_,_,.nil=>rfl
 |_,_,.cons h t=>by rw[lC0,lC0,KXL.length t]
theorem KXL.append: ∀{ds es}{b d},KXL l K α H ds b->KXL l K α H es d->KXL l K α H (ds++es) (b++d)
 |_,_,_,_,.nil,h=>h
 |_,_,_,_,.cons a t,h=>.cons a (KXL.append t h)
theorem KXL.at: ∀{ds}{a}{i:Nat}{d},KXL l K α H ds a->ds[i]? =some d-> ∃v,a[i]? =some v/\KX l K α H d v
 |_,_,0,_,.cons h t,e=>by cases e;exact⟨_,rfl,h⟩
 |_,_,i+1,_,.cons h t,e=>KXL.at (i:=i) t e
end
open Classical in
def KAt(d:Addr)(b:A0)(a:Nat)(h:Heap):Prop:= ∃o es,h.get? d=some o/\o.ExactDict/\o.data=.dict es a/\es.toList.map (·.key)=b
def KAt.at(x:KAt d us ep h)(m: ∀o,h.get? d=some o->h'.get? d=some o):KAt d us ep h':=let ⟨o,es,a,r⟩:=x;⟨o,es,m o a,r⟩
theorem KAt.size(x:KAt d us ep h): ∃o es,h.get? d=some o/\o.ExactDict/\o.data=.dict es ep/\es.size=us.length/\ ∀i (hi:i<es.size),us[i]? =some es[i].key:=by obtain⟨o,es,f,b,a,e⟩:=x;refine⟨o,es,f,b,a,by rw[<-e,lM0,Đ],λi hi=>?_⟩;rw[<-e,ü,Array.getElem?_toList,Array.getElem?_eq_getElem hi];rfl
def RMtX(P:Ķ)(w:World)(K:P0)(mg:K0)(base:Heap)(m:Str)(k n:Nat)(c:Str)(F:List MV->Sto->R Er):Prop:= ∃C a b ps,OC K c C/\Meth K C m a/\FnOk P w K mg base (YJ P w) k a b ps (Kk ⟨K,mg,P,w⟩ n F)/\Binds K b ps []
def RMtX.noX{K:P0}(T:RMtX P w K mg base m k n c F):RMt P w K mg base m k n c F:=let ⟨C,e,f,ps,d,b,G,a⟩:=T;⟨C,e,f,ps,d,b,G.noX,a⟩
end M
end L2
namespace L2
open PySem PySem.Spec PyProof.Rows
section
variable{L:Addr}
def Ol(h:env'.frame=env.frame)(x):noteFrame x env'=noteFrame x env:=by unfold noteFrame PySem.frameOf;rw[h]
def Mvd.refl:Mvd fs e T h h:=⟨λ_ _ _ _ _ q=>q,λ_ o _ _ q=>⟨o.slots,q⟩,λ_ o q=>⟨o,q⟩⟩
def Om(I:A.frames=some (env::outer))(Y:s.heap.FunFrames base (env::outer))(N:env.frame=some L)(a:XR s.heap e T cls d fl)
  (h: ∀h' v,v=T\/s.heap.get? v=none->Mvd (LB (env::outer)) e T s.heap h'->XR h' e v cls d (rawInt L)->Q () {s with heap:=h'}):wpAny M A (noteFrame (.ref e) env) Q E s:=by
 obtain⟨W,H,U,P,D,rfl,rfl,F,K,w,z,k,G,S⟩:=a;unfold noteFrame;simp only[N];refine wB (ð D F K ?_);refine wB (ð z k G ?_);by_cases u:(fl==rawInt L)=true
 .rw[iP u];refine wP (h s.heap T (.inl rfl) .refl ⟨W,H,U,P,D,rfl,rfl,F,K,w,z,k,?_,S⟩);rw[G,beq_iff_eq.mp u]
 rw[iN0 u];refine wB (ĩ z k (ă.mp G).1 ?_);have B:=setT (env:=env) (outer:=outer) (e:=e) (x:=Value.none) z k;have p: ∀b,b≠T->(s.heap.update T (Obj.mapFields (·.setIfInBounds 3 Value.none))).get? b=s.heap.get? b:=λb a=>õ _ _ (Ne.symm a);have j: ∀b o,s.heap.get? b=some o->(∀H,o.data≠.fields H)->b≠T:=λb o a r q=>by rw[q,z]at a;injection a with a;subst a;exact r P k
 refine Bt I (Y.of_keeps λb o a r=>⟨o,(p b (j b o a r)).trans a,rfl⟩) N ((p e (Ne.symm w)).trans D) F (ă.mp K).1 S
  λh' v n m f=>h h' v (.inr ?_) ⟨λb o i t y a=>m.keep b o i i y (B.keep b o i t y a),λb o i t a=>?_,λb o a=>?_⟩ f
 .cases q:s.heap.get? v with
  |none=>rfl
  |some o=>
   obtain⟨O,hs⟩:=B.there _ o q;have X:=n;rw[X]at hs;cases hs
 .obtain⟨sl,C⟩:=B.slot b o i t a;obtain⟨J,Z⟩:=m.slot b _ i i C;exact⟨J,Z⟩
 .obtain⟨O,C⟩:=B.there b o a;exact m.there b O C
def Da(r:XR s.heap e T cls d fl)(h: ∀h' j,Mvd (LB (env::outer)) e T s.heap h'->XR h' e T cls d j->Q () {s with heap:=h'}):wpAny M A (setFlight (.ref e) fr) Q E s:=by obtain⟨p,u,v,w,n,rfl,rfl,o,m,i,k,a,t,q⟩:=r;have b:=(ă.mp t).1;refine wB (ð n o m ?_);refine ĩ k a b (h _ (fr.elim .none λf=>rawInt f) (setT k a) ?_);exact⟨p,u,_,_,(õ _ _ i).trans n,rfl,rfl,o,m,i,ć _ k (ġ (Ď a _)),Ď a _,by rw[Array.getElem?_setIfInBounds_self_of_lt b],q⟩
def Jr(b:A.frames=some (env::outer))(q:s.heap.FunFrames base (env::outer))(p:env.frame=some L)(o:XR s.heap e T cls d fl)
  (h: ∀h' a,a=T\/s.heap.get? a=none->Mvd (LB (env::outer)) e T s.heap h'->XR h' e a cls d .none->Q () {s with heap:=h'}):wpAny M A (leaving env (.ref e)) Q E s:=by
 refine wB (Om b q p o λr a n m f=>iB (env:=env) (outer:=outer) f λk i j=>h k a n ?_ j);rcases n with rfl|n
 .exact m.trans i
 .exact m.new n i
end
def Xh(X:Cx)(E:XK):Prop:= ∀(pins:L1)(σ:St)(H:Hp)(s:Ĵ)(e T C:Addr)(d:Option Addr)(a:ĵ),Inv X pins σ H s->XR s.heap e T (.ref C) d a->X.s₀.heap.get? e=none->X.s₀.heap.get? T=none->H e=none->H T=none->E (.ref C) d H->X.xe (.ref e) s
section
variable{K:P0}
def Dc:Xh (LZ (YJ P w) P w K mg base N qual scope f cd A outer s H E) E:=by
 intro pins σ p s1 e T C d r J o ne h a b q;refine Jr J.ok.frames J.stack rfl o λh' i n m j=>?_;obtain⟨u,k⟩:=J.moved rfl m ne h a b;refine⟨e,i,C,d,p,rfl,J.os,J.bare,u,k,j,ne,?_,a,?_,q⟩
 .rcases n with rfl|n
  .exact h
  .exact J.older rfl n
 .rcases n with rfl|n
  .exact b
  .exact J.hok.none_of n
end
section
variable{pins:L1}{C:Addr}
def On(I:Inv X pins σ H1 s₂)(e:s₂.heap.objs.size<=C)(a: ∀b∈fp,pE X pins H1 b)
  (J:Inv (zS X sc T idx C s₂ H1 fp) ps σ1 H' s'):Inv X pins σ H' s':=by
 have B:=J.base;exact I.call' J.os B J.hok J.bare λb d=>⟨(a b d).2.2.2.1,(a b d).2.1,(a b d).2.2.2.2.1,(a b d).2.2.2.2.2⟩
def Inv.but(I:↑1)(f:pE X pins H C)(hs:Heap.SameBut C s.heap h'):Inv X pins σ H {s with heap:=h'}:=by
 have h: ∀b o,b≠C->s.heap.get? b=some o->h'.get? b=some o:=λb o d e=>(hs.2 b d).trans e;refine I.call' rfl ⟨λb o q n d a=>h b o (λz=>a (by rw[z];exact mS0.mpr rfl)) q,λb o q n d a=>⟨o.slots,h b o (λz=>a (by rw[z];exact mS0.mpr rfl)) q⟩,λb o q n a=>n,λb o q a=>⟨o,h b o (λz=>a (by rw[z];exact mS0.mpr rfl)) q⟩,λ_ _ q=>q,λ_ _ _ q=>q,λb ps q=>⟨#[],by rw[Array.append_empty];exact q⟩⟩ (λb u q=>?_) I.bare λb d=>?_
 .refine(I.hok b u q).stay (λc v i r=>h c v ?_ r) (λ_ q=>q) λ_ _ q=>q;rcases i with z|z
  .rw[z];exact zX q f.1
  .exact zX z f.1
 .rw[mS0.mp d];exact⟨f.2.2.2.1,f.2.1,f.2.2.2.2.1,f.2.2.2.2.2⟩
abbrev ZP(X:Cx)(E:XK)(d:Scope)(T:C0)(b:Db)(C:Addr)(a:Shared)(e:Hp)(fp:B9):Cx:=(zS X d T b C a e fp).wish λx f=> ∃pins τ H s,Inv (zS X d T b C a e fp) pins τ H s/\YJ X.prog X.w X.stack H s E x f
def VI:JC (YJ X.prog X.w) (ZP X E sc T idx C s₂ H1 fp) E:=λps τ H s x a I h=>⟨ps,τ,H,s,I.unwish,h⟩
def Oo(aa:Xh X E)(f:X.ex=[])(a:X.stack=X.env::X.outer)(ae:X.env.frame=some X.env.locals)(I:Inv X pins σ H1 s₂)(hC:s₂.heap.objs.size<=C)(af: ∀b∈fp,pE X pins H1 b)(h:(ZP X E sc T idx C s₂ H1 fp).xe x t):
  notedBy ↑6 X.A (compEnvC sc (Br X.env sc C) C X.env) (λx t=>compPost ↑6 X.A X.xe use Q' (.ref D) C (.error x) t) x t:=by
 obtain⟨ps,τ,H,s,Ic,e,Tb,C',d,H',rfl,os,bare,un,N,fl,ne,nT,Y,hT,q⟩:=h;have M:=On I hC af Ic;have Jc:=Ic.call' os un N bare (λ_ z=>nomatch z);have J:=M.call' os un N bare (λ_ z=>nomatch z);have v:=M.older f ne;have ai:=M.older f nT;unfold notedBy;rw[Ol (env':=compEnvC sc _ C X.env) (env:=X.env) rfl];have ab:X.A.frames=some (X.env::X.outer):=by rw[<-a];exact J.ok.frames
 have hl:t.heap.FunFrames X.base (X.env::X.outer):=by rw[<-a];exact J.stack
 have pe: ∀p∈X.pn++pins,p.1≠e:=λp P z=>by have:=(M.pin p P).1;rw[z,ne]at this;cases this
 have pT: ∀p∈X.pn++pins,p.1≠Tb:=λp P z=>by have:=(M.pin p P).1;rw[z,nT]at this;cases this
 have oe:Out X pins H' t e:=by obtain⟨U,y,_,_,i,_,_,k,_⟩:=id fl;exact⟨v,Y,pe,U,y,i,k⟩
 have oT:Out X pins H' t Tb:=by obtain⟨_,_,U,G,_,_,_,_,_,_,i,k,_⟩:=id fl;exact⟨ai,hT,pT,U,G,i,k⟩
 refine JE ab hl ae fl λh3 F n3 m3 f3=>?_;rw[<-a]at m3;have J3:=J.mvd f m3 oe oT;obtain⟨m,hn,_⟩:=id Jc.loc;have hn:=hn;obtain⟨o,es,ep,ho,j,r⟩:=hn;have K:C≠e:=oe.ne ho λy z=>by rw[j]at z;cases z
 have aj:C≠Tb:=oT.ne ho λy z=>by rw[j]at z;cases z
 obtain⟨sl,e1⟩:=m3.slot C o K aj ho;refine⟨m,⟨_,es,ep,e1,j,r⟩,λh' B ak _=>?_⟩;have fC:pE X pins H' C:=I.fpOk hC Jc.free;have ag:C≠F:=λz=>by obtain⟨_,_,U,G,_,_,_,_,_,_,i,k,_⟩:=id f3;rw[<-z,e1]at i;cases i;rw[j]at k;cases k
 have J4:Inv X pins σ H' {t with heap:=h'}:=J3.but fC B;have f4:XR h' e F (.ref C') d (rawInt X.env.locals):=by obtain⟨u,y,n,G,i,k,O,W,Z,h6,h7,h8,h9,L⟩:=f3;exact⟨u,y,n,G,(B.2 e (Ne.symm K)).trans i,k,O,W,Z,h6,(B.2 F (Ne.symm ag)).trans h7,h8,h9,L⟩
 have S:=J.older f n3;have Q:H' F=none:=J.hok.none_of n3;unfold PySem.passOn;obtain⟨u,y,n,G,i,k,O,W,Z,h6,h7,h8,h9,L⟩:=id f4;refine wB (ð i W Z ?_);rw[iN0 (by simp)];refine wB (Da (env:=X.env) (outer:=X.outer) f4 λao ah m5 f5=>wpAny_throw ?_);rw[<-a]at m5;have p3: ∀p∈X.pn++pins,p.1≠F:=λp P z=>by have:=(J.pin p P).1;rw[z,n3]at this;cases this
 exact aa pins σ H' _ e F C' d ah (J4.mvd f m5 ⟨v,Y,pe,u,y,i,W⟩ ⟨S,Q,p3,n,G,h7,h8⟩) f5 v S Y Q q
end
section
def QY(I:Nat->Ĵ->Prop)
  (turn: ∀n s,I n s->wpAny (model prog w) A (pyNext it) (λr b=>match r with
   |none=>R (.ok .next) b
   |some v=>wpAny (model prog w) A (letOwnedTupleGo target it v) (λ_ d=>wpAny (model prog w) A (assign target env v) (λ_ j=>
     wpAny (model prog w) A (forIn ifs true λc r=>if r=true then do let ok <-isTrue c env (eval c env);pure (ForInStep.yield ok)else pure (ForInStep.yield r)) (λok a=>
      if ok=true then wpAny (model prog w) A (eval elt env) (λx i=>
       wpAny (model prog w) A (call (.builtin "list.append") [acc,x]) (λ_ k=> ∃m,m<n/\I m k) (λ_ _=>False) i) (notedBy (model prog w) A env λx y=>R (.error x) y) a
      else∃m,m<n/\I m a) (λ_ _=>False) j) (λ_ _=>False) d) (λ_ _=>False) b) (λ_ _=>False) s)
  (n) (h:I n s):codeAny (model prog w) A (.compLoop (.ListComp elt [⟨target,iter,ifs,0⟩] scope pos) 0 it acc env) R s:=by
 refine codeAny_loop rfl I (λn s C=>?_) n h;refine wpAny_noted ?_;have t: ∀{B:VP}(v:ĵ)(y:Ĵ),False->B v y:=λ_ _ z=>z.elim;refine wB (ē (wB (ó (turn n s C) (λr b e=>?_) (t))))
 cases r with
 |none=>exact wP e
 |some v=>
  refine wB (ó e (λ_ d o=>wB (ó o (λ_ j p=>wB (ó p (λok a f=>?_) t)) t)) t)
  cases ok with
  |false=>exact wP ⟨rfl,f⟩
  |true=>
   exact wB (wB (ó f (λx i u=>wB (ó u (λ_ k q=>wP (wP ⟨rfl,q⟩)) t)) λ_ _ z=>z))
end
section
theorem TF(a':Xh X E)(a6:X.ex=[])(aw:X.stack=X.env::X.outer)(bg:X.env.frame=some X.env.locals)(T)(idx)
  (hi:Qz C X tg iter wi) (hCx: ∀c f G fp pins σ,Inv X pins σ G f->C (zS X sc T idx c f G fp)) (hB:rE X.env.scope X.N sc idx=true)
  (hg: ∀C f H1 fp,PG (zS X sc T idx C f H1 fp) tg g)
  (hc: ∀C f H1 fp,UQ (zS X sc T idx C f H1 fp) ifs (tc C f H1 fp))
  (he: ∀C f H1 fp,PE (ZP X E sc T idx C f H1 fp) elt (te C f H1 fp))
  (hs: ∀x,foldedSetIterable iter X.env x=pure x:=by intro _;rfl)
         (I:↑1) (h:RY wi g tc te T.length idx σ H Q)
  (fin: ∀ D C  P  H'  r ,(∀h',Heap.SameBut C P.heap h'->Inv X pins σ H' {P with heap:=h'})->pE X pins H' C->(∃m,P.heap.Ns C m)->Q (.ref D) H'->
   compPost ↑6 X.A X.xe use Q' (.ref D) C (.ok r) P):
  wpAny ↑6 X.A (comprehension (.ListComp elt [⟨tg,iter,ifs,0⟩] sc pos) sc X.env (firstIterPos [⟨tg,iter,ifs,0⟩] pos) (newList []) false (eval iter X.env) use) Q' X.xe s:=by
 have cf:=Ei hB;refine wpAny_comprehension_free rfl hs (FG (NU I cf)) cf.kind cf.locs ?_;refine kL (hi pins s σ H _ I h) λv s1 h1=>kL h1 λbl a h2=>?_;obtain⟨it,fp,tn,J,G,e,M,K,ah,f2,W,⟨m0,w0⟩,ay⟩:=h2;subst e;have aj: ∀b∈fp,b<a.heap.objs.size:=λb t=>let ⟨o,e,_⟩:=K.obj _ _ ah b t;ã e;refine ĥ (FH ?_);dsimp only;generalize ak:a.heap.push {cls:=.type "list",dict:=none,data:=.seq ([]:A0).toArray}=HH;generalize ab:pushCells (HH.push {cls:=.type "dict",data:=.dict #[]}) sc.names=h₁;have Y:h₁.Ns HH.objs.size (λ_=>none):=ab▸(Heap.Ns.new HH (.type "dict")).keeps (pushCells_keeps _ _);have hC:HH.objs.size=a.heap.objs.size+1:=by rw[<-ak,ù]
 have U:a.heap.objs.size≠HH.objs.size:=by rw[hC];exact é (Ĝ _)
 have B:a.heap.objs.size<=HH.objs.size:=by rw[hC];exact le_succ _
 have ax: ∀b o,HH.get? b=some o->h₁.get? b=some o:=λb o e=>ab▸pushCells_keeps _ _ b o (hP0 _ e);have ag: ∀b o,a.heap.get? b=some o->h₁.get? b=some o:=λb o e=>ax b o (ak▸hP0 _ e);have a3:h₁.get? a.heap.objs.size=some {cls:=.type "list",data:=.seq ([]:A0).toArray 0}:=ax _ _ (ak▸ä _ rfl);have a7: ∀x c,(x,c)∈cellsFrom (HH.objs.size+1) sc.names []->h₁.IsCell c none:=λx c hm=>by have ok:=cellsFrom_ok sc.names (HH.push {cls:=.type "dict",data:=.dict #[]}) 0 [] ⟨λ_ _ hm=>(nomatch hm),List.Pairwise.nil⟩ (zero_le _);rw[ù,ab]at ok;exact(ok.empty x c hm).1
 have bf:G a.heap.objs.size=none:=M.hok.fresh (à _)
 have cD: ∀x c,(Br X.env sc HH.objs.size).lookup x=some c->c≠a.heap.objs.size:=λx c e=>by
  rcases nN e with z|z
  .exact û (vF z B)
  .obtain⟨v,q⟩:=M.cell x c (jR M cf z);exact é q.lt
 have aa: ∀P:Ĵ,P={a with heap:=h₁}->
   codeAny ↑6 X.A (.compLoop (.ListComp elt [⟨tg,iter,ifs,0⟩] sc pos) 0 (.ref it) (.ref a.heap.objs.size) (compEnvC sc (Br X.env sc HH.objs.size) HH.objs.size X.env))
    (compPost ↑6 X.A X.xe use Q' (.ref a.heap.objs.size) HH.objs.size) P:=by
  rintro P rfl
  have J0:Inv (zS X sc T idx HH.objs.size a G fp) [] (T.map (λ_=>none)++BQ σ idx) G {a with heap:=h₁}:=
   NV M cf B f2 aj ag rfl rfl Y a7
  refine QY (λk Z=> ∃(i:Nat)(ys:List V)(j:A0)(n:Nat)(H':Hp)(τ:St),Inv (zS X sc T idx HH.objs.size a G fp) [] (τ++BQ σ idx) H' Z/\τ.length=T.length/\tn i Z.heap/\(∀b∈fp,H' b=none)/\
   Z.heap.get? a.heap.objs.size=some {cls:=.type "list",data:=.seq j.toArray n}/\H' a.heap.objs.size=none/\Vals ys j/\W i k ys H') ?_ m0
   ⟨0,[],[],0,G,_,J0,by rw[lM0],K.keep _ _ _ ah λb _ o e=>ag b o e,λb t=>(f2 b t).1,a3,bf,.nil,w0⟩
  rintro k s3 ⟨i,ys,j,n,H3,τ,I3,a8,az,av,bc,ae,r3,w3⟩;obtain⟨hz,bh⟩:=ay i k ys H3 w3;have ar:a.heap.objs.size∉(zS X sc T idx HH.objs.size a G fp).fs:=λz=>by obtain⟨_,o,ho,_⟩:=M.stack.mem (show a.heap.objs.size∈LB X.stack from z);exact absurd (ã ho) (ĳ _)
  have au: ∀{H':Hp}{Z:Ĵ},Z.heap.get? a.heap.objs.size=some {cls:=.type "list",data:=.seq j.toArray n}->H' a.heap.objs.size=none->
    ∀p∈[(a.heap.objs.size,_)],Z.heap.get? p.1=some p.2/\H' p.1=none/\p.1≠(zS X sc T idx HH.objs.size a G fp).env.locals/\p.1∉(zS X sc T idx HH.objs.size a G fp).fs/\ ∀v,p.2.data≠.cell v:=
   λ{H' Z} e1 e2 p O=>by
    have ep:p=(a.heap.objs.size,{cls:=.type "list",data:=.seq j.toArray n}):=by simpa using O
    subst ep;exact⟨e1,e2,U,ar,λv z=>by cases z⟩
  have P3:Inv (zS X sc T idx HH.objs.size a G fp) [_] (τ++BQ σ idx) H3 s3:=I3.pins_of (au bc ae)
  have L: ∀{H':Hp},(∀b∈fp,H' b=none)-> ∀b∈fp,pE (zS X sc T idx HH.objs.size a G fp) [_] H' b:=λ{H'} hn b t=>by
   have ao:=aj b t;refine⟨hn b t,é (æ ao B),I3.ok.exfs b t,.inl t,λx c e=>?_,λp O=>?_⟩
   .rcases nN e with z|z
    .exact û (lt_trans ao (vF z B))
    .exact(f2 b t).2.2.2.2.1 x c (jR M cf z)
   have ep:p=(a.heap.objs.size,({cls:=.type "list",data:=.seq j.toArray n}:Obj)):=by simpa [zS]using O
   subst ep;exact û ao
  rcases bh with⟨stop,q⟩|⟨go,hl2,step⟩
  .refine kL (K.done (zS X sc T idx HH.objs.size a G fp) rfl rfl rfl (hCx _ _ _ _ _ _ M) i _ s3 _ H3 (λ_ _=>False) P3 (L av) az stop) λr P ⟨hr,I4⟩=>?_;subst hr;obtain⟨m,hn,_⟩:=id I4.loc;have a4:=(I4.pin (a.heap.objs.size,{cls:=.type "list",data:=.seq j.toArray n}) (by simp)).1;exact fin _ _ P _ _ (λh' a9=>NW M B f2 (I4.pins_of (λp O=>nomatch O)) a9 (à _) U a4 ae r3 hz) (M.fpOk B (by rw[zP (Ne.symm U)];exact I4.free)) ⟨m,hn⟩ (q _ ae)
  .refine kL (K.item (zS X sc T idx HH.objs.size a G fp) rfl rfl rfl (hCx _ _ _ _ _ _ M) i _ s3 _ H3 (λ_ _=>False) P3 (L av) az go) λr P ⟨u,hr,h4⟩=>?_;subst hr;refine kL h4 λ_ s5 ⟨x,H5,I5,r5,y5,S,ba⟩=>?_;have a5:=I5.pinned (L ba) (K.obj _ _ S);refine kL (hg HH.objs.size a G fp _ s5 _ H5 x u _ a5 r5 (step x H5 y5 τ a8)) λ_ s6 ⟨bj,H6,I6,⟨af,e6,l6⟩,q6⟩=>?_;subst e6;refine kL (hc HH.objs.size a G fp _ s6 _ H6 _ I6 (q6 HH.objs.size a fp)) λok s7 ⟨H7,I7,q7⟩=>?_
   have mD:(a.heap.objs.size,({cls:=.type "list",data:=.seq j.toArray n}:Obj))∈(zS X sc T idx HH.objs.size a G fp).pn++([(a.heap.objs.size,{cls:=.type "list",data:=.seq j.toArray n})]++GA fp s5.heap):=
    î _ (ÿ _ (by simp))
   have mF: ∀b∈fp, ∀o,s5.heap.get? b=some o->(b,o)∈(zS X sc T idx HH.objs.size a G fp).pn++([(a.heap.objs.size,{cls:=.type "list",data:=.seq j.toArray n})]++GA fp s5.heap):=λb t o e=>
    î _ (î _ (vE t e))
   cases ok with
   |false=>
    rw[iN0 xF0]at q7 ⊢;obtain⟨m',aq,w7⟩:=q7;refine⟨m',aq,i+1,ys,j,n,H7,af,I7.pins_of (λp O=>nomatch O),l6,K.keep _ _ _ S λb t o e=>(I7.pin _ (mF b t o e)).1,λb t=>?_,(I7.pin _ mD).1,(I7.pin _ mD).2.1,r3,w7⟩;obtain⟨o,e,d⟩:=K.obj _ _ S b t;exact(I7.pin _ (mF b t o e)).2.1
   |true=>
    rw[iP rfl]at q7 ⊢;refine ó (he HH.objs.size a G fp _ s7 _ H7 _ (I7.wish _) q7) (λy s8 ⟨yv,H8,bb,r8,m',aq,w8⟩=>?_) (λx Z hx=>Oo a' a6 aw bg M B f2 hx);have I8:=bb.unwish;have ai:=(I8.pin _ mD).1;have a0:=(I8.pin _ mD).2.1;have hl:=r3.length;have q:=PySem.IsL.update ai (λz=>z.push y);rw[show j.toArray.push y=(j++[y]).toArray by simp]at q;refine ħ PySem.F.slot_list_append ⟨_,ai,rfl⟩ PySem.F.entry_list_append (PySem.F.args_list_append_2 _ _) (PySem.list_append a.heap.objs.size j.toArray n y (by rw[sA];lia)) ⟨ai,?_⟩;have I9:Inv (zS X sc T idx HH.objs.size a G fp) [] (af++BQ σ idx) H8 s8:=I8.pins_of (λp O=>nomatch O);have up: ∀b o,b≠a.heap.objs.size->s8.heap.get? b=some o->(s8.heap.update a.heap.objs.size (Obj.mapSeq λz=>z.push y)).get? b=some o:=λb o t e=>(õ s8.heap _ (Ne.symm t)).trans e;refine⟨m',aq,i+1,_,_,_,H8,af,I9.turned up a0 U (.inr (à _)) cD (λp O=>nomatch O),l6,?_,λb t=>?_,q,a0,r3.append (.cons r8 .nil),w8⟩
    .exact K.keep _ _ _ S λb t o e=>up b o (é (aj b t)) (I8.pin _ (mF b t o e)).1
    .obtain⟨o,e,d⟩:=K.obj _ _ S b t;exact(I8.pin _ (mF b t o e)).2.1
 exact codeAny_compStart_list (aa _ rfl) (K.self X.A 0 _ _ _ (K.keep _ _ _ ah λb _ o e=>ag b o e) (aa _ rfl))
def Oq(j:Xh X E)(e:X.ex=[])(d:X.stack=X.env::X.outer)(f:X.env.frame=some X.env.locals)(T)(idx)
  (hi:Qz C X tg iter wi) (hCx: ∀c a k fp pins σ,Inv X pins σ k a->C (zS X sc T idx c a k fp)) (hB:rE X.env.scope X.N sc idx=true)
  (hg: ∀C a b fp,PG (zS X sc T idx C a b fp) tg g)
  (hc: ∀C a b fp,UQ (zS X sc T idx C a b fp) ifs (tc C a b fp))
  (he: ∀C a b fp,PE (ZP X E sc T idx C a b fp) elt (te C a b fp))
  (hs: ∀x,foldedSetIterable iter X.env x=pure x:=by intro _;rfl):
  PE X (.ListComp elt [⟨tg,iter,ifs,0⟩] sc pos) (RY wi g tc te T.length idx):=by
 intro pins s σ H Q I h;exact TF j e d f T idx hi hCx hB hg hc he hs I h λD C o H' r J _ ⟨m,n⟩ q=>⟨m,n,λh' i=>⟨.ref D,H',J h' i,rfl,q⟩⟩
def Os(w:Xh X E)(y:X.ex=[])(n:X.stack=X.env::X.outer)(u:X.env.frame=some X.env.locals)(T)(idx)
  (hi:Qz C X tg iter wi) (hCx: ∀c d B fp pins σ,Inv X pins σ B d->C (zS X sc T idx c d B fp)) (hB:rE X.env.scope X.N sc idx=true)
  (hg: ∀C d j fp,PG (zS X sc T idx C d j fp) tg g)
  (hc: ∀C d j fp,UQ (zS X sc T idx C d j fp) ifs (tc C d j fp))
  (he: ∀C d j fp,PE (ZP X E sc T idx C d j fp) elt (te C d j fp))
  (hs: ∀x,foldedSetIterable iter X.env x=pure x:=by intro _;rfl):
  PU X (.ListComp elt [⟨tg,iter,ifs,0⟩] sc pos) (RY wi g tc te T.length idx):=by
 intro i x G F Y v M K z pins s σ H D I h;rw[exec_Assign_Name_used _ _ _ _ z];refine wB (ē (wB ?_));refine wB (kL (TF w y n u T idx hi hCx hB hg hc he hs I h λS C O H' _ J f t q=>?_) λ_ L P=>wP (wP P));have Q:=J O.heap (Heap.SameBut.refl _ _);refine wpAny_assign_Name (IZ Q Y v M (show RelV (.ref S) _ from rfl) (λL U ⟨a,A,p⟩=>?_) K);obtain⟨m,t⟩:=t
 have r:C≠a:=by
  rintro rfl;rcases p with p|p
  .exact f.2.1 p
  .exact f.2.2.2.2.1 x _ p rfl
 refine⟨m,t.sameBut A r,λh' k=>⟨_,H',?_,q⟩⟩;exact U.turned (λb o W e=>(k.2 b W).trans e) f.1 f.2.1 f.2.2.2.1 f.2.2.2.2.1 f.2.2.2.2.2
end
namespace M
open PySem PySem.Spec PyProof.Rows
open Classical in
def nY(gf:MV->Rho->Sto->R Rho)(cf:AZ)(ef:AX)(ρb:Rho)(gs:V0):List MV->Sto->R (List MV)
 |[],S=>.ok [] S
 |d::ds,S=>(noX (gf d ρb S)).bind λa i=>(noX (cf a i)).bind λk b=>
  if k=true then(ef a b).bind λr f=>(dR r f).bind λy e=>if stay gs e then(nY gf cf ef ρb gs ds e).bind λout h=>.ok (y::out) h else .no
  else if stay gs b then nY gf cf ef ρb gs ds b else .no
def pX(i:Rho->Sto->R Wk)(g:MV->Rho->Sto->R Rho)(c:AZ)(e:AX)(n:Nat)(I:Db)(ρ:Rho)(S:Sto):R Er:=(i ρ S).bind λk S=>if k.ds.length<1000000 then(nY g c e (vD n I ρ) k.gs k.ds S).bind λo S=>.ok (.new o) S else .no
def Post.bindZ[Dn β τ][Dn γ υ]{g:Gm}{W:XW}{α α':B9}{H H':Hp}(x:Ext α H α' H'){m:R β}{k:β->Sto->R γ}{Q:υ->Hp->Prop}{j:τ->Hp->Prop}(q:Post g W α H (m.bind k) Q)
  (f: ∀u b h a e,m=.ok b h->Ext α' H' a e->Wd g a h e->Dn.d g H' a h e b u->Post g W α H (k b h) Q->j u e):Post g W α' H' m j:=by
 cases m with
 |ok b S=>exact λu a e x w d=>f u b S a e rfl x w d q
 |exc c fs S=>exact λi p n o=>q i p (x.trans n) o
 |no=>exact q
section
variable{X:Cx}{iter:Expr}{c:Expr}{pos:Pos}
open Classical in
def ZQ{E:XK}(ak:Xh X E)(aj:X.ex=[])(aa:X.stack=X.env::X.outer)(ar:X.env.frame=some X.env.locals){C:Cx->Prop}{ah tg:Expr}{af:O0}{sc:Scope}{au:Rho->Sto->R Wk}{cf:AZ}{ef:AX}{gf:MV->Rho->Sto->R Rho}(ao:Scope)(N:C0)(T:C0)(f:Db)
  (hi:Jd X (WE X.g E) (Qz C X tg iter) au) (hCx: ∀c a Y fp pins σ,Inv X pins σ Y a->C (zS X sc T f c a Y fp))
  (hg: ∀C a p fp,([]++T++f.map λi=>(N[i]?).getD Str.empty).Nodup->Sq T.length (zS X sc T f C a p fp) W0 tg gf)
  (hc: ∀C a p fp,YQ (zS X sc T f C a p fp) W0 af cf) (he: ∀C a p fp,yF (ZP X E sc T f C a p fp) (WE X.g E) ah ef)
  (e1:X.env.scope=ao:=by rfl) (e2:X.N=N:=by rfl) (hB:rE ao N sc f=true:=by decide+kernel) (hN:([]++T++f.map λi=>(N[i]?).getD Str.empty).Nodup:=by decide+kernel)
  (hs: ∀y,foldedSetIterable iter X.env y=pure y:=by intro _;rfl):
  Jd (β:=Er) (τ:=V) X (WE X.g E) (λt=>PE X (.ListComp ah [⟨tg,iter,af,0⟩] sc pos) t/\PU X (.ListComp ah [⟨tg,iter,af,0⟩] sc pos) t) (λz S=>(au z S).bind λk S1=>if k.ds.length<1000000 then(nY gf cf ef (vD T.length f z) k.gs k.ds S1).bind λout L=>.ok (.new out) L else .no):=by
 obtain⟨wi,hi,ki⟩:=hi;subst e1 e2;have a0:(1000000:Nat)<sizeLine:=by rw[ý];decide
 have ay: ∃t,(∀C a p fp,PG (zS X sc T f C a p fp) tg t)/\ ∀α z S σ H d v Q,Wd X.g α S H->Slots X.K α H z σ->Den X.K α H d v->Post X.g W0 α H (gf d z S) (Keeps T.length σ Q)->t v σ H Q:=by refine⟨λv σ H Q=> ∃α z S d,Wd X.g α S H/\Slots X.K α H z σ/\Den X.K α H d v/\Post X.g W0 α H (gf d z S) (Keeps T.length σ Q),λC a p fp pins s σ H v u Q I r ⟨α,z,S,d,h1,h2,h3,h4⟩=>?_,λα z S σ H d v Q h1 h2 h3 h4=>⟨α,z,S,d,h1,h2,h3,h4⟩⟩;obtain⟨t,ht,kt⟩:=hg C a p fp hN;exact ht pins s σ H v u Q I r (kt α z S σ H d v Q h1 h2 h3 h4)
 obtain⟨a4,ai,kg⟩:=ay;refine⟨_,⟨Oq ak aj aa ar T f hi hCx hB ai (λC a p fp=>(ò (hc C a p fp)).1) (λC a p fp=>(ò (he C a p fp)).1) hs,Os ak aj aa ar T f hi hCx hB ai (λC a p fp=>(ò (hc C a p fp)).1) (λC a p fp=>(ò (he C a p fp)).1) hs⟩,λα z S σ H Q wd sl q=>ki α z S σ H _ wd sl (q.bind λJ k S1 ax p e1 x1 w1 d1 q1=>?_)⟩;obtain⟨P,hP⟩:=d1;split at q1
 .rename_i az
  refine⟨λn m ys Y=>m=k.ds.length - n/\n<=k.ds.length/\ys.length<=n/\ ∃A L,Ext α H A Y/\Wd X.g A L Y/\P A L Y/\ ∃h,DenL X.K A Y h ys/\Post X.g (WE X.g E) α H ((nY gf cf ef (vD T.length f z) k.gs (k.ds.drop n) L).bind λo B=>.ok (Er.new (h++o)) B) Q,
   ⟨_,rfl,zero_le _,à _,ax,S1,x1,w1,hP.here,[],xB,by simpa using q1⟩,?_⟩
  rintro n m ys Y ⟨rfl,hn,hy,A,L,x2,w2,p2,h,l,q2⟩;obtain⟨i1,i2⟩:=hP.it n A L Y p2 w2;refine⟨by omega,?_⟩;by_cases F:n<k.ds.length
  .obtain⟨go,yl⟩:=i1 F;refine .inr ⟨go,by omega,λv H3 y τ O=>?_⟩;obtain⟨x3,w3,p3,d,hd,dv⟩:=yl v H3 y;have ab:k.ds.drop n=d::k.ds.drop (n+1):=by rw[Ĩ F];have:=gE F;rw[hd]at this;rw[<-å this]
   rw[ab]at q2;unfold nY at q2;have av:=SN (sl.ext (x2.trans x3)) T.length f τ O;refine kg A (vD T.length f z) L _ H3 d v _ w3 av dv ?_;rw[R.bind_assoc]at q2;refine q2.bindY (x2.trans x3) λW aq S4 ae H4 e4 x4 w4 s4 q4 Z aw=>⟨⟨W.take T.length,?_,?_⟩,λC a fp=>?_⟩
   .refine ext_getElem? λj=>?_;have a5:W.length=T.length+f.length:=by rw[Z,lA,nA,O]
    by_cases hj:j<T.length
    .rw[á (by rw[lT];omega),Ī hj]
    .rw[aw j (by omega),â (by omega),â (by rw[lT];omega),O,lT,min_eq_left (by omega)]
   .rw[lT,Z,lA,nA,O];omega
   have U:Ext α H ae H4:=(x2.trans x3).trans x4;have p4: ∀w M H5,Ext ae H4 w H5->Wd X.g w M H5->stay k.gs M->P w M H5:=λw M H5 G w5 s5=>hP.stays A L H3 w M H5 p3 (x4.trans G) w5 s5;rw[R.bind_assoc]at q4;refine(ò (hc C a p fp)).2 ae aq S4 W H4 _ w4 s4 (q4.bindY U λb5 a6 M w H5 e5 G w5 d5 q5=>?_);cases d5
   cases b5 with
   |false=>
    rw[iN0 xF0]at q5 ⊢;split at q5
    .rename_i ag;exact⟨k.ds.length - (n+1),by omega,rfl,F,by omega,w,M,U.trans G,w5,p4 w M H5 G w5 ag,h,(l.ext (x3.trans x4)).ext G,q5⟩
    .exact q5.elim
   |true=>
    rw[iP rfl,R.bind_assoc]at q5;rw[iP rfl];refine(ò (he C a p fp)).2 w aq M W H5 _ w5 (s4.ext G) (q5.bindZ (U.trans G) λy6 r6 S6 a3 H6 e6 x6 w6 d6 q6=>?_);obtain⟨d',B,α',e7,x7,y7,w7,de⟩:=eX w6 x6 d6;rw[e7]at q6;have q6:Post X.g (WE X.g E) α H ((if stay k.gs B then(nY gf cf ef (vD T.length f z) k.gs (k.ds.drop (n+1)) B).bind λout S4=>.ok (d'::out) S4 else .no).bind λo B=>.ok (Er.new (h++o)) B) Q:=q6;split at q6
    .rename_i ag;refine⟨k.ds.length - (n+1),by omega,rfl,F,by rw[lA,lS];omega,α',B,(U.trans G).trans x7,w7,p4 α' B H6 (G.trans x7) w7 ag,h++[d'],((l.ext (x3.trans x4)).ext (G.trans x7)).append (yW de xB),?_⟩;rw[R.bind_assoc]at q6;have e8:(λ(o:R0) (B:Sto)=>R.ok (Er.new ((h++[d'])++o)) B)=(λ(b:R0) S=>(R.ok (d'::b) S).bind λo B=>.ok (Er.new (h++o)) B):=by funext o B;show _=R.ok (Er.new (h++(d'::o))) B;rw[aA];rfl
     rw[e8];exact q6
    .exact q6.elim
  .have e:n=k.ds.length:=by omega
   subst e;rw[drop_length]at q2;have q3:Post X.g (WE X.g E) α H (.ok (Er.new (h++[])) L) Q:=q2;rw[aN]at q3;exact .inl ⟨i2 (à _),λD hD=>(q3.shift x2).newl w2 hD l⟩
 .exact q1.elim
open Classical in
def Ot{E:XK}(q:Xh X E)(r:X.ex=[])(n:X.stack=X.env::X.outer)(p:X.env.frame=some X.env.locals){m tg:Expr}{f:O0}{j:Scope}{e:Rho->Sto->R Wk}{cf:AZ}{ef:AX}{gf:MV->Rho->Sto->R Rho}(d:Scope)(N:C0)(T:C0)(a:Db)
  (hi:PIm X (WE X.g E) tg iter e) (hcalm:X.calm=true)
  (hg: ∀C b o fp,([]++T++a.map λi=>(N[i]?).getD Str.empty).Nodup->Sq T.length (zS X j T a C b o fp) W0 tg gf)
  (hc: ∀C b o fp,YQ (zS X j T a C b o fp) W0 f cf) (he: ∀C b o fp,yF (ZP X E j T a C b o fp) (WE X.g E) m ef)
  (e1:X.env.scope=d:=by rfl) (e2:X.N=N:=by rfl) (hB:rE d N j a=true:=by decide+kernel) (hN:([]++T++a.map λi=>(N[i]?).getD Str.empty).Nodup:=by decide+kernel)
  (hs: ∀y,foldedSetIterable iter X.env y=pure y:=by intro _;rfl):
  yF X (WE X.g E) (.ListComp m [⟨tg,iter,f,0⟩] j pos) (λs S=>(e s S).bind λk u=>if k.ds.length<1000000 then(nY gf cf ef (vD T.length a s) k.gs k.ds u).bind λout v=>.ok (.new out) v else .no):=let ⟨t,h,k⟩:=(ZQ q r n p d N T a (PIm.cm hi) (λ_ _ _ _ _ _ _=>hcalm) hg hc he e1 e2 hB hN hs);⟨t,h.1,k⟩
open Classical in
def ZR{E:XK}(B:Xh X E)(I:X.ex=[])(w:X.stack=X.env::X.outer)(A:X.env.frame=some X.env.locals){x:Str}{f d:Pos}(i:Nat)(G:X.N.Nodup){n tg:Expr}{j:O0}{p:Scope}{s:Rho->Sto->R Wk}{cf:AZ}{ef:AX}{gf:MV->Rho->Sto->R Rho}(m:Scope)(N:C0)(T:C0)(a:Db)
  (hi:PIm X (WE X.g E) tg iter s) (hcalm:X.calm=true)
  (hg: ∀C b o fp,([]++T++a.map λi=>(N[i]?).getD Str.empty).Nodup->Sq T.length (zS X p T a C b o fp) W0 tg gf)
  (hc: ∀C b o fp,YQ (zS X p T a C b o fp) W0 j cf) (he: ∀C b o fp,yF (ZP X E p T a C b o fp) (WE X.g E) n ef)
  (z:X.env.scope=m:=by rfl) (e2:X.N=N:=by rfl) (hB:rE m N p a=true:=by decide+kernel) (hN:([]++T++a.map λi=>(N[i]?).getD Str.empty).Nodup:=by decide+kernel)
  (hs: ∀y,foldedSetIterable iter X.env y=pure y:=by intro _;rfl)
  (hi2:X.N[i]? =some x:=by rfl) (hx:Loc X.env.scope x:=by first |exact Or.inl rfl|exact Or.inr rfl)
  (hsw:swapsWith (.ListComp n [⟨tg,iter,j,0⟩] p pos) (some (.Name x f)) d.line X.env=pure true:=by with_unfolding_all rfl) (hf:Q0 X x:=by first |exact .inl rfl|exact .inr rfl|assumption):
  Eo X (WE X.g E) (.Assign [.Name x f] (.ListComp n [⟨tg,iter,j,0⟩] p pos) d) (λv S=>((s v S).bind λk J=>if k.ds.length<1000000 then(nY gf cf ef (vD T.length a v) k.gs k.ds J).bind λout U=>.ok (.new out) U else .no).bind (MC v i)):=by
 obtain⟨t,h,k⟩:=(ZQ B I w A m N T a (PIm.cm hi) (λ_ _ _ _ _ _ _=>hcalm) hg hc he z e2 hB hN hs)
 refine⟨_,h.2 i x f d G hi2 hx hf hsw,λα v S σ H D wd L q=>k α v S σ H _ wd L (q.expr λu r J Z o e K M Q F=>?_)⟩;obtain⟨d',S',α',z,O,W,P,Y⟩:=eX M K Q;unfold MC at F;rw[z]at F;exact F _ α' o O P (((L.ext K).ex0 W).set Y)
section
variable{p:Pos}
def JY(B:JC (YJ X.prog X.w) X E)(G:Jn X.prog X.w X.K X.mg X.base x k n ps F)(s:Room k X.A)(m:Gl X x)(b:IW X (WE X.g E) (e::es) af)(d:(x==("__debug__"))=false:=by decide)
  (he:q8 X e es:=by rfl) (hpl:q9 X pos es:=by rfl):yF X (WE X.g E) (.Call (.Name x p) (e::es) [] pos) (λa S=>(af a S).bind λf h=>jV n F f h):=by
 obtain⟨_,_,G,r,o,y⟩:=G.ex;obtain⟨t,b,u⟩:=b;refine⟨_,UH G s m r o y .nil B b d he hpl,λα a S σ H Q wd i q=>u α a S σ H _ wd i (q.bind λL f h D J I v C j z=>?_)⟩;rw[aN];exact GH v C j z
end
end
end M
end L2
namespace L2
namespace M
namespace My
open PySem PySem.Spec PyProof.Rows
set_option bootstrap.genMatcherCode true in
local macro_rules
 | `(tactic|simp? [$xs,*] $[$l:location]?)=>`(tactic|simp only[List.getElem?_cons_zero,List.getElem?_cons_succ,Ts,cW,as_int,V9,A8,add_int,sub_int,eq_int,B1,W1,lst1,lst2,B4,lst6,tup2,W2,B5,B6,B7,B8,C1,C3,Tz,Ua,List.set_cons_zero,List.set_cons_succ,if_true,Uc,Ub,vJ,kJ,bJ,dJ,nJ,aJ,oJ,iJ,mJ,tJ,zJ,fJ,xJ,eJ,uJ,pJ,jJ,qJ,rJ,sJ,wJ,yJ,AJ,BJ,CJ,DJ,EJ,FJ,GJ,HJ,JJ,$xs,*] $[$l:location]?)
set_option bootstrap.genMatcherCode true in
local macro_rules
 |`(#[$x])=>`(some (.loc $x))
 |`(#[$x,0])=>`(some (.int $x))
 |`(#[$x,1])=>`(.val (.loc $x))
 |`(#[$x,2])=>`(some (.lst $x))
 |`(#[$x,3])=>`(some (.tup $x))
 |`(#[$x,4])=>`(some (.str $x))
 |`(#[$x,5])=>`(.val (.int $x))
 |`(#[$x,6])=>`(.val (.tup $x))
 |`(#[$x,7])=>`(some (.dic $x))
abbrev fA:List Str:=["thing","least","most"]
abbrev JZ:List Str:=["thing","tables","wide"]
abbrev GL:List Str:=["atoms","names","atom","term"]
abbrev EO:List Str:=["things","atoms","standing"]
abbrev sL:List Str:=["tables","head","atoms","place","atom"]
abbrev CI:List Str:=["pieces","sign","parts","piece"]
abbrev kO:List Str:=["tables","text","halves","head","atoms"]
abbrev GM:List Str:=[ň,ő,Œ]
abbrev CK:List Str:=[ň,ű,Œ,"_law_name_here",Ő]
abbrev CL:List Str:=[ň,Œ,ű,"_law_name_here",Ų,"_law_turned","_law_other","_law_great"]
abbrev sM:List Str:=[ň,ũ,Œ,Ś,Ň,Ő,Ŕ]
abbrev oR:List Str:=[ň,Ś,ű,Œ,"_law_size",Ų,"_law_beginning","_law_base","_law_j","_law_turned",Ŋ]
abbrev CN:List Str:=[ň,Ň,Ŋ,Ŏ,Ŕ,Œ,Ÿ,ţ,Ő]
abbrev gF:List Str:=[Ŝ,Ň,Ŋ,Ŏ,Ŕ,ų,ţ,Ÿ,"_law_some","_law_there",Œ,Ŷ,Ő]
abbrev IF:List Str:=[Ť,ŵ]
abbrev CO:List Str:=[ō,ŏ,Ő,Ÿ,ţ,ŷ,Ŵ]
abbrev LO:List Str:=[ŏ,ň,Ŋ,Œ,"_law_some",ŕ,Ų,"_law_way"]
abbrev fB:List Str:=[ŉ,"_law_figures"]
abbrev nE:List Str:=[ŏ,Ų,Ŷ,ų,ŕ,"_law_atom_here",Ō]
abbrev oS:List Str:=[Ň,ō,Ŷ,ų,"_law_names",Ő,Ÿ,ţ]
abbrev pL:List Str:=[Ň,ŉ,ŝ,ŗ,ŵ,Ō,Ť]
abbrev IG:List Str:=[Ň,ŉ,œ,ŗ]
abbrev Fz:List Str:=[ŋ,Ŋ,Ŏ,Ň,Ś,Ŝ,ŏ,Ő,"_law_blanks",ŉ,Ŵ]
noncomputable abbrev XNS:List Str:=["TooGreat","NoText","NoPlace","NotPlain","NoTable","NoRule","NoRow","Twice","NoQuestion","Double","TooWide","Ring"]
abbrev AF:=AY
abbrev AE:=AX
def VJ:AF:=(AJ (aJ (bJ (yJ (vJ 0) (yJ (kJ (.typ "int")) wJ)) bF) (nJ (bJ (yJ (vJ 0) (yJ (kJ (.typ "bool")) wJ)) bF))))
def De:AF:=(VJ)
def bI(ds:R0)(S:Sto):R Er:=xF (De (zU ["thing"] ds) S)
def FN:AZ:=uJ
def sN:AE:=(jJ QM QM (kJ (.str [97])) (vJ 0) (kJ (.str [122])))
def CP:AF:=(iJ (sJ (qJ (bJ (bJ (yJ (vJ 0) (yJ (kJ (.typ "str")) wJ)) bF) gD)) (qJ (bJ (jJ QM QM (kJ (.int 1)) (bJ (yJ (vJ 0) wJ) kS) (kJ (.int (8)))) bC))) ((AJ (kJ (.bl false)))) (JJ))
def CQ:AF:=(AJ (bJ (yJ (pJ (bJ (vJ 0) Zs) (xY 0) (FN) (sN) 1 []) wJ) QU))
def KA:AF:=zM (CP) ((CQ))
def kP(ds:R0)(S:Sto):R Er:=xF (KA (zU ["thing"] ds) S)
def nZ:AF:=(iJ (bJ (fJ 1 bI (yJ (vJ 0) wJ)) gD) ((AJ (dJ MW (bJ (yJ (vJ 0) wJ) Th) (dJ JN (kJ (.int 10)) (kJ (.int 30)))))) (JJ))
def vN:AF:=(AJ (fJ 1 kP (yJ (vJ 0) wJ)))
def GN:AF:=zM (nZ) ((vN))
def vO(ds:R0)(S:Sto):R Er:=xF (GN (zU ["thing"] ds) S)
def IH:AF:=(AJ (aJ (bJ (yJ (vJ 0) (yJ (kJ (.typ "tuple")) wJ)) bF) (jJ QM QM (vJ 1) (bJ (yJ (vJ 0) wJ) kS) (vJ 2))))
def GO:AF:=(IH)
def bK(ds:R0)(S:Sto):R Er:=xF (GO (zU fA ds) S)
def cL:AF:=(AJ (aJ (fJ 1 bI (yJ (vJ 0) wJ)) (jJ QM MW (kJ (.int 0)) (vJ 0) (vJ 1))))
def kU:AF:=(cL)
def kW(ds:R0)(S:Sto):R Er:=xF (kU (zU ["thing","bound"] ds) S)
def iG:AF:=(iJ (qJ (bJ (fJ 3 bK (yJ (vJ 0) (yJ (kJ (.int 2)) (yJ (kJ (.int 2)) wJ)))) gD)) ((AJ (kJ (.bl false)))) (JJ))
def iH:AF:=(iJ (bJ (dJ pB (dJ gL (vJ 0) (kJ (.int 0))) (kJ (.str [118,97,114]))) bC) ((AJ (fJ 1 kP (yJ (dJ gL (vJ 0) (kJ (.int 1))) wJ)))) (JJ))
def iI:AF:=(AJ (aJ (dJ pB (dJ gL (vJ 0) (kJ (.int 0))) (kJ (.str [105,115]))) (fJ 1 vO (yJ (dJ gL (vJ 0) (kJ (.int 1))) wJ))))
def KB:AF:=zM (iG) (zM (iH) ((iI)))
def EQ(ds:R0)(S:Sto):R Er:=xF (KB (zU ["thing"] ds) S)
def FO:AZ:=uJ
def sO:AE:=(fJ 1 EQ (yJ (vJ 0) wJ))
def iK:AF:=(iJ (sJ (qJ (bJ (fJ 3 bK (yJ (vJ 0) (yJ (kJ (.int 2)) (yJ (kJ (.int 2)) wJ)))) gD)) (qJ (bJ (fJ 2 kW (yJ (dJ gL (vJ 0) (kJ (.int 0))) (yJ (bJ (yJ (vJ 1) wJ) kS) wJ))) gD))) ((AJ (kJ (.bl false)))) (JJ))
def CS:AF:=(CJ (dJ gL (dJ gL (vJ 1) (dJ gL (vJ 0) (kJ (.int 0)))) (kJ (.int 0))) 2)
def iL:AF:=(AJ (aJ (fJ 3 bK (yJ (dJ gL (vJ 0) (kJ (.int 1))) (yJ (vJ 2) (yJ (vJ 2) wJ)))) (bJ (yJ (pJ (bJ (dJ gL (vJ 0) (kJ (.int 1))) Ki) (xY 0) (FO) (sO) 1 []) wJ) QU)))
def KC:AF:=zM (iK) (zM (CS) ((iL)))
def ER(ds:R0)(S:Sto):R Er:=xF (KC (zU JZ ds) S)
def pM:AY:=(iJ (bJ (dJ pB (dJ gL (vJ 3) (kJ (.int 0))) (kJ (.str [118,97,114]))) bC) ((EJ (kJ (.bl true)) (DJ ZF (vJ 1) (dJ gL (vJ 3) (kJ (.int 1)))))) (JJ))
def oU:AY:=(pM)
def CT:AY:=(FJ (bJ (dJ gL (vJ 2) (kJ (.int 1))) Ki) (xY 3) (oU))
def vP:AY:=(CT)
def vQ:AF:=(CJ zJ 1)
def vR:AF:=(FJ (bJ (vJ 0) itQ) (xY 2) (vP))
def vS:AF:=(AJ (bJ (yJ (vJ 1) wJ) OW))
def OZ:AF:=zM (vQ) (zM (vR) ((vS)))
def fD(ds:R0)(S:Sto):R Er:=xF (OZ (zU GL ds) S)
def FP:AZ:=uJ
def sP:AE:=(dJ (JQ false) (vJ 0) (vJ 1))
def CU:AF:=(CJ (fJ 1 fD (yJ (vJ 1) wJ)) 2)
def CV:AF:=(iJ (sJ (bJ (dJ Sy (bJ (yJ (vJ 0) wJ) kS) (kJ (.int (4)))) bC) (qJ (bJ (bJ (yJ (pJ (bJ (vJ 0) itQ) (xY 0) (FP) (sP) 1 [2]) wJ) QU) gD))) ((AJ (kJ (.bl false)))) (JJ))
def CW:AF:=(AJ (dJ pB (bJ (yJ (vJ 0) wJ) LN) (bJ (yJ (vJ 0) wJ) kS)))
def TH:AF:=zM (CU) (zM (CV) ((CW)))
def pD(ds:R0)(S:Sto):R Er:=xF (TH (zU EO ds) S)
def PB:AF:=(AJ (bJ (yJ (vJ 0) (yJ (bJ (yJ (kJ (.typ "list")) (yJ (kJ (.typ "tuple")) wJ)) pH) wJ)) ZA))
def PC:AF:=(PB)
def CY(ds:R0)(S:Sto):R Er:=xF (PC (zU ["thing"] ds) S)
def aB:AY:=(iJ (qJ (bJ (fJ 2 ER (yJ (vJ 4) (yJ (vJ 0) wJ))) gD)) ((bJ (vJ 3) (O8 "NoQuestion" "place"))) (JJ))
def dI:AY:=(aB)
def lK:AF:=(iJ (qJ (bJ (fJ 1 CY (yJ (vJ 2) wJ)) gD)) ((bJ (kJ (.int 0)) (O8 "NoQuestion" "place"))) (JJ))
def gG:AF:=(FJ (bJ (yJ (vJ 2) wJ) itE) (MU 2 (yR (xY 3) (yR (xY 4) nB))) (dI))
def lL:AF:=(iJ (sJ (qJ (bJ (jJ QM QM (kJ (.int 1)) (bJ (yJ (vJ 2) wJ) kS) (kJ (.int (4)))) bC)) (sJ (qJ (bJ (fJ 1 CY (yJ (vJ 1) wJ)) gD)) (qJ (bJ (fJ 2 pD (yJ (vJ 1) (yJ (vJ 2) wJ))) gD)))) ((bJ (bJ (yJ (vJ 2) wJ) kS) (O8 "NoQuestion" "place"))) (JJ))
def lN:AF:=(AJ (bJ (yJ (bJ (yJ (vJ 1) wJ) hW) (yJ (bJ (yJ (vJ 2) wJ) hW) wJ)) pH))
def FQ:AF:=zM (lK) (zM (gG) (zM (lL) ((lN))))
def gM(ds:R0)(S:Sto):R Er:=xF (FQ (zU sL ds) S)
def oG:AZ:=uJ
def cN:AE:=(dJ (JQ false) (vJ 0) (kJ (.str [48,49,50,51,52,53,54,55,56,57])))
def aC:AF:=(CJ (iJ (bJ (eJ jE Xc (vJ 0) (yJ (kJ (.str [45])) wJ)) gD) (tJ wU (vJ 0) (bJ (kJ (.int 1)) EI) mJ) (vJ 0)) 1)
def aD:AF:=(iJ (qJ (bJ (jJ QM QM (kJ (.int 1)) (bJ (yJ (vJ 1) wJ) kS) (kJ (.int (30)))) bC)) ((AJ (kJ (.bl false)))) (JJ))
def aF:AF:=(iJ (qJ (bJ (bJ (yJ (pJ (bJ (vJ 1) Zs) (xY 0) (oG) (cN) 1 []) wJ) QU) gD)) ((AJ (kJ (.bl false)))) (JJ))
def aG:AF:=(AJ (oJ (dJ pB (vJ 0) (kJ (.str [48]))) (dJ QL (dJ gL (vJ 1) (kJ (.int 0))) (kJ (.str [48])))))
def lO:AF:=zM (aC) (zM (aD) (zM (aF) ((aG))))
def kQ(ds:R0)(S:Sto):R Er:=xF (lO (zU ["text","figures"] ds) S)
def CZ:AF:=(iJ (qJ (bJ (bJ (yJ (vJ 0) (yJ (kJ (.typ "str")) wJ)) bF) gD)) ((GJ (yJ (kJ (.str [119,104,97,116,32,105,115,32,110,111,32,116,101,120,116,32,119,114,105,116,101,115,32,110,111,32,118,97,108,117,101])) wJ) "NoText")) (JJ))
def bL:AF:=(iJ (bJ (fJ 1 kP (yJ (vJ 0) wJ)) gD) ((AJ (vJ 0))) (JJ))
def bM:AF:=(iJ (bJ (fJ 1 kQ (yJ (vJ 0) wJ)) gD) ((AJ (bJ (yJ (vJ 0) wJ) GE))) (JJ))
def PD:AF:=(GJ (yJ (kJ (.str [116,104,101,32,116,101,120,116,32,119,114,105,116,101,115,32,110,111,32,118,97,108,117,101])) wJ) "NoText")
def II:AF:=zM (CZ) (zM (bL) (zM (bM) ((PD))))
def bW(ds:R0)(S:Sto):R Er:=xF (II (zU ["text"] ds) S)
def jF:AF:=(iJ (sJ (qJ (bJ (eJ jE Xc (vJ 0) (yJ (kJ (.str [63])) wJ)) gD)) (qJ (bJ (fJ 1 kP (yJ (tJ wU (vJ 0) (bJ (kJ (.int 1)) EI) mJ) wJ)) gD))) ((GJ (yJ (kJ (.str [97,32,112,105,101,99,101,32,105,115,32,110,111,116,32,63,32,97,110,100,32,97,32,110,97,109,101])) wJ) "NoText")) (JJ))
def FR:AF:=(AJ (tJ wU (vJ 0) (bJ (kJ (.int 1)) EI) mJ))
def LP:AF:=zM (jF) ((FR))
def nF(ds:R0)(S:Sto):R Er:=xF (LP (zU ["piece"] ds) S)
def jG:AF:=(iJ (bJ (eJ jE Xc (vJ 0) (yJ (kJ (.str [63])) wJ)) gD) ((AJ (bJ (yJ (kJ (.str [118,97,114])) (yJ (xJ 1 nF (yJ (vJ 0) wJ)) wJ)) pH))) (JJ))
def sQ:AF:=(AJ (bJ (yJ (kJ (.str [105,115])) (yJ (xJ 1 bW (yJ (vJ 0) wJ)) wJ)) pH))
def LQ:AF:=zM (jG) ((sQ))
def rQ(ds:R0)(S:Sto):R Er:=xF (LQ (zU ["piece"] ds) S)
def BB:AZ:=uJ
def lP:AE:=(xJ 1 rQ (yJ (vJ 0) wJ))
def jH:AF:=(iJ (sJ (bJ (dJ pB (bJ (yJ (vJ 0) wJ) kS) (kJ (.int 0))) bC) (qJ (bJ (fJ 1 kQ (yJ (dJ gL (vJ 0) (kJ (.int 0))) wJ)) gD))) ((GJ (yJ (kJ (.str [97,110,32,97,116,111,109,32,100,111,101,115,110,39,116,32,98,101,103,105,110,32,119,105,116,104,32,97,32,110,117,109,98,101,114])) wJ) "NoText")) (JJ))
def FS:AF:=(AJ (bJ (yJ (xJ 1 bW (yJ (dJ gL (vJ 0) (kJ (.int 0))) wJ)) (yJ (bJ (yJ (pX (bJ (tJ wU (vJ 0) (bJ (kJ (.int 1)) EI) mJ) QS) (xY 0) (BB) (lP) 1 []) wJ) hW) wJ)) pH))
def LR:AF:=zM (jH) ((FS))
def rR(ds:R0)(S:Sto):R Er:=xF (LR (zU ["pieces"] ds) S)
def lQ:AY:=(iJ (bJ (dJ pB (vJ 3) (vJ 1)) bC) ((BJ (eJ eQ GF (vJ 2) (yJ (bJ wJ xU) wJ)))) ((BJ (eJ eQ GF (dJ gL (vJ 2) (kJ (.int (-1)))) (yJ (vJ 3) wJ)))))
def gN:AY:=(lQ)
def sR:AF:=(CJ (bJ (yJ (bJ wJ xU) wJ) xU) 2)
def sS:AF:=(FJ (bJ (vJ 0) QS) (xY 3) (gN))
def FT:AF:=(AJ (vJ 2))
def LS:AF:=zM (sR) (zM (sS) ((FT)))
def bN(ds:R0)(S:Sto):R Er:=xF (LS (zU CI ds) S)
def oH:AZ:=uJ
def cO:AE:=(xJ 1 nF (yJ (vJ 0) wJ))
def cP:AZ:=uJ
def jN:AE:=(xJ 1 rR (yJ (vJ 0) wJ))
def gV:AF:=(iJ (qJ (bJ (bJ (yJ (vJ 1) (yJ (kJ (.typ "str")) wJ)) bF) gD)) ((GJ (yJ (kJ (.str [119,104,97,116,32,105,115,32,110,111,32,116,101,120,116,32,119,114,105,116,101,115,32,110,111,32,113,117,101,115,116,105,111,110])) wJ) "NoText")) (JJ))
def aH:AF:=(CJ (fJ 2 bN (yJ (eJ jE GK (vJ 1) (yJ (kJ (.str [32])) wJ)) (yJ (kJ (.str [58])) wJ))) 2)
def kX:AF:=(iJ (bJ (dJ QL (bJ (yJ (vJ 2) wJ) kS) (kJ (.int 2))) bC) ((GJ (yJ (kJ (.str [97,32,113,117,101,115,116,105,111,110,32,104,97,115,32,111,110,101,32,112,105,101,99,101,32,58,32,105,110,32,105,116])) wJ) "NoText")) (JJ))
def kY:AF:=(CJ (pX (bJ (dJ gL (vJ 2) (kJ (.int 0))) QS) (xY 0) (oH) (cO) 1 []) 3)
def kZ:AF:=(CJ (pX (bJ (fJ 2 bN (yJ (dJ gL (vJ 2) (kJ (.int 1))) (yJ (kJ (.str [59])) wJ))) QS) (xY 0) (cP) (jN) 1 []) 4)
def rS:AF:=(AJ (xJ 3 gM (yJ (vJ 0) (yJ (vJ 3) (yJ (vJ 4) wJ)))))
def lR:AF:=zM (gV) (zM (aH) (zM (kX) (zM (kY) (zM (kZ) ((rS))))))
def yD(ds:R0)(S:Sto):R Er:=xF (lR (zU kO ds) S)
def fE:AF:=(iJ (bJ (dJ MW (vJ 1) (bJ (yJ (vJ 0) wJ) kS)) bC) ((AJ (dJ gL (vJ 0) (vJ 1)))) (JJ))
def KD:AF:=(AJ (kJ (.int 0)))
def pN:AF:=zM (fE) ((KD))
def yG(ds:R0)(S:Sto):R Er:=xF (pN (zU [ŋ,Ő] ds) S)
def vT:AF:=(iJ (bJ (dJ pB (dJ jU (vJ 0) (kJ (.int 2))) (kJ (.int 0))) bC) ((AJ (dJ jU (dJ nU (vJ 0) (kJ (.int 2))) (dJ JN (dJ JN (kJ (.int 10)) (kJ (.int 60))) (kJ (.int 10)))))) (JJ))
def vU:AF:=(CJ (dJ jU (dJ sH (dJ yH (dJ jU (vJ 0) (kJ (.int 2147483629))) (kJ (.int 7))) (kJ (.int 48271))) (vJ 1)) 2)
def vV:AF:=(AJ (dJ yH (dJ sH (dJ jU (dJ sH (vJ 2) (vJ 2)) (kJ (.int 2147483579))) (kJ (.int 1000003))) (vJ 2)))
def GP:AF:=zM (vT) (zM (vU) ((vV)))
def yV(ds:R0)(S:Sto):R Er:=xF (GP (zU GM ds) S)
def lU:AY:=(CJ (dJ yH (vJ 3) (dJ gL (vJ 1) (dJ jU (vJ 2) (kJ (.int 26))))) 3)
def lV:AY:=(CJ (dJ nU (vJ 2) (kJ (.int 26))) 2)
def fW:AY:=zM (lU) ((lV))
def FU:AF:=(CJ (kJ (.str [97,98,99,100,101,102,103,104,105,106,107,108,109,110,111,112,113,114,115,116,117,118,119,120,121,122])) 1)
def sT:AF:=(CJ (dJ nU (vJ 0) (kJ (.int 8))) 2)
def FV:AF:=(CJ (kJ (.str [])) 3)
def sU:AF:=(FJ (bJ (yJ (dJ yH (kJ (.int 1)) (dJ jU (vJ 0) (kJ (.int 8)))) wJ) eP) (xY 4) (fW))
def QZ:AF:=(AJ (vJ 3))
def LT:AF:=zM (FU) (zM (sT) (zM (FV) (zM (sU) ((QZ)))))
def nG(ds:R0)(S:Sto):R Er:=xF (LT (zU CK ds) S)
def sV:AF:=(CJ (fJ 2 yV (yJ (vJ 0) (yJ (kJ (.int 2147483587)) wJ))) 1)
def FW:AF:=(CJ (kJ (.str [97,98,99,100,101,102,103,104,105,106,107,108,109,110,111,112,113,114,115,116,117,118,119,120,121,122])) 2)
def sW:AF:=(CJ (fJ 1 nG (yJ (vJ 1) wJ)) 3)
def sX:AF:=(CJ (dJ nU (vJ 1) (dJ sH (kJ (.int 8)) (dJ JN (kJ (.int 26)) (kJ (.int 8))))) 1)
def sY:AF:=(CJ (dJ jU (vJ 1) (bJ (yJ (vJ 3) wJ) kS)) 4)
def sZ:AF:=(CJ (dJ yH (dJ yH (eJ jE OP (vJ 2) (yJ (dJ gL (vJ 3) (vJ 4)) wJ)) (kJ (.int 1))) (dJ jU (dJ nU (vJ 1) (kJ (.int 8))) (kJ (.int 25)))) 5)
def tB:AF:=(CJ (dJ yH (dJ yH (tJ wU (vJ 3) mJ (bJ (vJ 4) EI)) (dJ gL (vJ 2) (dJ jU (vJ 5) (kJ (.int 26))))) (tJ wU (vJ 3) (bJ (dJ yH (vJ 4) (kJ (.int 1))) EI) mJ)) 6)
def tD:AF:=(CJ (dJ nU (vJ 1) (kJ (.int 200))) 1)
def tE:AF:=(CJ (dJ yH (dJ jU (dJ JN (dJ yH (dJ sH (dJ jU (vJ 1) (dJ JN (kJ (.int 10)) (kJ (.int 30)))) (kJ (.int 48271))) (kJ (.int 11))) (kJ (.int 4))) (dJ Me (dJ JN (kJ (.int 10)) (kJ (.int 30))) (kJ (.int 3)))) (kJ (.int 1))) 7)
def aI:AF:=(iJ (bJ (dJ pB (dJ jU (vJ 1) (kJ (.int 2))) (kJ (.int 1))) bC) ((CJ (dJ yH (dJ jU (dJ nU (vJ 1) (kJ (.int 2))) (dJ Me (dJ JN (kJ (.int 10)) (kJ (.int 30))) (kJ (.int 3)))) (kJ (.int 1))) 7)) (JJ))
def pO:AF:=(AJ (bJ (yJ (dJ jU (dJ nU (vJ 1) (kJ (.int 64))) (kJ (.int 5))) (yJ (vJ 7) (yJ (vJ 3) (yJ (dJ Me (kJ (.int 0)) (vJ 7)) (yJ (vJ 6) (yJ (dJ yH (dJ jU (dJ nU (vJ 1) (kJ (.int 320))) (kJ (.int 5))) (kJ (.int 7))) (yJ (dJ yH (vJ 7) (kJ (.int 1))) wJ))))))) xU))
def LU:AF:=zM (sV) (zM (FW) (zM (sW) (zM (sX) (zM (sY) (zM (sZ) (zM (tB) (zM (tD) (zM (tE) (zM (aI) ((pO)))))))))))
def nH(ds:R0)(S:Sto):R Er:=xF (LU (zU CL ds) S)
def uU(a:List MV->Sto->R Er):AZ:=uJ
def fF(a:List MV->Sto->R Er):AE:=(fJ 2 a (yJ (vJ 0) (yJ (vJ 1) wJ)))
def aK(a:List MV->Sto->R Er):AF:=(iJ (bJ (dJ JP (vJ 1) (kJ .non)) bC) ((AJ (dJ JP (vJ 0) (kJ .non)))) (JJ))
def aL(a:List MV->Sto->R Er):AF:=(iJ (bJ (bJ (yJ (vJ 1) (yJ (kJ (.typ "str")) wJ)) bF) gD) ((AJ (aJ (bJ (yJ (vJ 0) (yJ (kJ (.typ "str")) wJ)) bF) (dJ pB (vJ 0) (vJ 1))))) (JJ))
def pP(a:List MV->Sto->R Er):AF:=(iJ (bJ (bJ (yJ (vJ 1) (yJ (kJ (.typ "int")) wJ)) bF) gD) ((AJ (aJ (bJ (yJ (vJ 0) (yJ (kJ (.typ "int")) wJ)) bF) (aJ (nJ (bJ (yJ (vJ 0) (yJ (kJ (.typ "bool")) wJ)) bF)) (dJ pB (vJ 0) (vJ 1)))))) (JJ))
def DA(a:List MV->Sto->R Er):AF:=(iJ (rJ (bJ (bJ (yJ (vJ 1) (yJ (kJ (.typ "list")) wJ)) bF) gD) (qJ (bJ (bJ (yJ (vJ 0) (yJ (kJ (.typ "list")) wJ)) bF) gD))) ((AJ (kJ (.bl false)))) (JJ))
def DB(a:List MV->Sto->R Er):AF:=(iJ (rJ (bJ (bJ (yJ (vJ 1) (yJ (kJ (.typ "tuple")) wJ)) bF) gD) (qJ (bJ (bJ (yJ (vJ 0) (yJ (kJ (.typ "tuple")) wJ)) bF) gD))) ((AJ (kJ (.bl false)))) (JJ))
def DC(a:List MV->Sto->R Er):AF:=(AJ (aJ (dJ pB (bJ (yJ (vJ 0) wJ) kS) (bJ (yJ (vJ 1) wJ) kS)) (bJ (yJ (pJ (bJ (yJ (vJ 0) (yJ (vJ 1) wJ)) zAH) (MU 2 (yR (xY 0) (yR (xY 1) nB))) (uU a) (fF a) 2 []) wJ) QU)))
def vW(a:List MV->Sto->R Er):AF:=zM (aK a) (zM (aL a) (zM (pP a) (zM (DA a) (zM (DB a) ((DC a))))))
def xW:Nat->List MV->Sto->R Er
 |0=>λ_ _=>.no
 |n+1=>λa S=>xF (vW (xW n) (zU [Ō,œ] a) S)
def aM:AY:=(CJ (dJ yH (kJ (.int 1)) (dJ jU (vJ 2) (kJ (.int 4)))) 6)
def aO:AY:=(BJ (eJ eQ GF (vJ 4) (yJ (bJ (yJ (vJ 6) (yJ (dJ jU (dJ nU (vJ 2) (kJ (.int 4))) (dJ yH (vJ 6) (kJ (.int 1)))) wJ)) pH) wJ)))
def aP:AY:=(CJ (dJ nU (vJ 2) (kJ (.int 20))) 2)
def dL:AY:=zM (aM) (zM (aO) ((aP)))
def lW:AF:=(CJ (fJ 2 yV (yJ (vJ 0) (yJ (kJ (.int 2147483629)) wJ))) 2)
def lX:AF:=(CJ (dJ yH (kJ (.int 1)) (dJ jU (vJ 2) (vJ 1))) 3)
def lY:AF:=(CJ (dJ nU (vJ 2) (vJ 1)) 2)
def lZ:AF:=(CJ (bJ wJ xU) 4)
def mB:AF:=(FJ (bJ (yJ (vJ 3) wJ) eP) (xY 5) (dL))
def mE:AF:=(AJ (bJ (yJ (vJ 4) wJ) hW))
def FX:AF:=zM (lW) (zM (lX) (zM (lY) (zM (lZ) (zM (mB) ((mE))))))
def gO(ds:R0)(S:Sto):R Er:=xF (FX (zU sM ds) S)
def fG:AY:=(CJ (dJ yH (vJ 7) (dJ gL (vJ 2) (dJ jU (vJ 3) (kJ (.int 26))))) 7)
def fH:AY:=(CJ (dJ nU (vJ 3) (kJ (.int 26))) 3)
def aQ:AY:=zM (fG) ((fH))
def bX:AZ:=uJ
def jW:AE:=(dJ yH (dJ yH (tJ wU (vJ 3) mJ (bJ (vJ 2) EI)) (dJ gL (vJ 1) (dJ jU (dJ yH (vJ 4) (vJ 0)) (kJ (.int 26))))) (tJ wU (vJ 3) (bJ (dJ yH (vJ 2) (kJ (.int 1))) EI) mJ))
def DD:AF:=(CJ (kJ (.str [97,98,99,100,101,102,103,104,105,106,107,108,109,110,111,112,113,114,115,116,117,118,119,120,121,122])) 2)
def pQ:AF:=(CJ (fJ 2 yV (yJ (vJ 0) (yJ (kJ (.int 2147483647)) wJ))) 3)
def pR:AF:=(CJ (dJ yH (kJ (.int 1)) (dJ jU (vJ 3) (kJ (.int 7)))) 4)
def pS:AF:=(CJ (dJ jU (dJ nU (vJ 3) (kJ (.int 7))) (vJ 4)) 5)
def pU:AF:=(CJ (dJ pB (dJ jU (dJ nU (vJ 3) (kJ (.int 49))) (kJ (.int 3))) (kJ (.int 1))) 6)
def pV:AF:=(CJ (dJ nU (vJ 3) (kJ (.int 147))) 3)
def DE:AF:=(CJ (kJ (.str [])) 7)
def pW:AF:=(FJ (bJ (yJ (vJ 4) wJ) eP) (xY 8) (aQ))
def pY:AF:=(CJ (eJ jE OP (vJ 2) (yJ (dJ gL (vJ 7) (vJ 5)) wJ)) 9)
def mG:AF:=(CJ (pJ (bJ (yJ (vJ 1) wJ) eP) (xY 0) (bX) (jW) 1 [2,5,7,9]) 10)
def dM:AF:=(iJ (bJ (vJ 6) gD) ((EJ (dJ yH (dJ gL (vJ 10) (kJ (.int 0))) (dJ gL (vJ 2) (dJ jU (vJ 3) (kJ (.int 26))))) (DJ YV (vJ 10) (kJ (.int 1))))) (JJ))
def BC:AF:=(AJ (vJ 10))
def IK:AF:=zM (DD) (zM (pQ) (zM (pR) (zM (pS) (zM (pU) (zM (pV) (zM (DE) (zM (pW) (zM (pY) (zM (mG) (zM (dM) ((BC))))))))))))
def hZ(ds:R0)(S:Sto):R Er:=xF (IK (zU oR ds) S)
def gH:AY:=(iJ (bJ (dJ MW (dJ jU (vJ 5) (kJ (.int 5))) (kJ (.int 3))) bC) ((BJ (eJ eQ GF (vJ 7) (yJ (bJ (yJ (kJ (.str [118,97,114])) (yJ (dJ gL (vJ 2) (dJ jU (dJ nU (vJ 5) (kJ (.int 5))) (bJ (yJ (vJ 2) wJ) kS))) wJ)) pH) wJ)))) ((BJ (eJ eQ GF (vJ 7) (yJ (bJ (yJ (kJ (.str [105,115])) (yJ (dJ gL (vJ 3) (dJ jU (dJ nU (vJ 5) (kJ (.int 5))) (vJ 4))) wJ)) pH) wJ)))))
def mH:AY:=(CJ (dJ nU (vJ 5) (kJ (.int 210))) 5)
def cX:AY:=zM (gH) ((mH))
def tF:AF:=(CJ (fJ 2 yV (yJ (vJ 0) (yJ (kJ (.int 2147483549)) wJ))) 5)
def tG:AF:=(CJ (dJ jU (vJ 5) (bJ (yJ (vJ 1) wJ) kS)) 6)
def tH:AF:=(CJ (dJ nU (vJ 5) (bJ (yJ (vJ 1) wJ) kS)) 5)
def tI:AF:=(CJ (bJ wJ xU) 7)
def tK:AF:=(FJ (bJ (yJ (dJ gL (dJ gL (vJ 1) (vJ 6)) (kJ (.int 0))) wJ) eP) (xY 8) (cX))
def tL:AF:=(AJ (bJ (yJ (vJ 6) (yJ (bJ (yJ (vJ 7) wJ) hW) wJ)) pH))
def LV:AF:=zM (tF) (zM (tG) (zM (tH) (zM (tI) (zM (tK) ((tL))))))
def nI(ds:R0)(S:Sto):R Er:=xF (LV (zU CN ds) S)
def cQ:AZ:=uJ
def jO:AE:=(fJ 5 nI (yJ (vJ 0) (yJ (vJ 1) (yJ (vJ 2) (yJ (vJ 3) (yJ (vJ 4) wJ))))))
def oK:AY:=(CJ (dJ yH (vJ 6) (bJ (yJ (vJ 8) wJ) Fi)) 6)
def gW:AY:=(oK)
def cR:AZ:=(bJ (dJ (JQ false) (bJ (yJ (kJ (.str [118,97,114])) (yJ (vJ 0) wJ)) pH) (vJ 1)) bC)
def oO:AE:=(vJ 0)
def wR:AY:=(iJ (bJ (dJ Sy (dJ jU (vJ 10) (kJ (.int 3))) (kJ (.int 0))) bC) ((BJ (eJ eQ GF (vJ 11) (yJ (dJ gL (vJ 9) (vJ 12)) wJ)))) (JJ))
def cS:AY:=(CJ (dJ nU (vJ 10) (kJ (.int 3))) 10)
def jA:AY:=zM (wR) ((cS))
def aR:AF:=(CJ (bJ (yJ (pJ (bJ (tJ wU (vJ 0) (bJ (kJ (.int 1)) EI) mJ) QS) (xY 0) (cQ) (jO) 1 [1,2,3,4]) wJ) hW) 5)
def aS:AF:=(CJ (bJ wJ xU) 6)
def aT:AF:=(FJ (bJ (vJ 5) Ki) (MU 2 (yR (xY 7) (yR (xY 8) nB))) (gW))
def aU:AF:=(CJ (pJ (bJ (vJ 2) QS) (xY 0) (cR) (oO) 1 [6]) 9)
def aV:AF:=(CJ (fJ 2 yV (yJ (dJ gL (vJ 0) (kJ (.int 0))) (yJ (kJ (.int 2147483489)) wJ))) 10)
def aW:AF:=(CJ (bJ wJ xU) 11)
def aX:AF:=(FJ (bJ (yJ (bJ (yJ (vJ 9) wJ) kS) wJ) eP) (xY 12) (jA))
def gX:AF:=(iJ (bJ (dJ pB (dJ jU (vJ 10) (kJ (.int 2))) (kJ (.int 1))) bC) ((CJ (tJ (YT (-1)) (vJ 11) mJ mJ) 11)) (JJ))
def aY:AF:=(AJ (bJ (yJ (bJ (yJ (vJ 11) wJ) hW) (yJ (vJ 5) wJ)) pH))
def BD:AF:=zM (aR) (zM (aS) (zM (aT) (zM (aU) (zM (aV) (zM (aW) (zM (aX) (zM (gX) ((aY)))))))))
def wQ(ds:R0)(S:Sto):R Er:=xF (BD (zU gF ds) S)
def pZ:AF:=(CJ (bJ (yJ (bJ (vJ 0) (BL XNS "TooGreat")) (yJ (bJ (vJ 0) (BL XNS "NoTable")) (yJ (bJ (vJ 0) (BL XNS "NoRule")) (yJ (bJ (vJ 0) (BL XNS "NoRow")) wJ)))) xU) 1)
def qA:AF:=(CJ (dJ yH (vJ 1) (bJ (yJ (bJ (vJ 0) (BL XNS "Twice")) (yJ (bJ (vJ 0) (BL XNS "NoText")) (yJ (bJ (vJ 0) (BL XNS "NoPlace")) (yJ (bJ (vJ 0) (BL XNS "NotPlain")) wJ)))) xU)) 1)
def qB:AF:=(CJ (dJ yH (vJ 1) (bJ (yJ (bJ (vJ 0) (BL XNS "NoQuestion")) (yJ (bJ (vJ 0) (BL XNS "Double")) (yJ (bJ (vJ 0) (BL XNS "TooWide")) (yJ (bJ (vJ 0) (BL XNS "Ring")) wJ)))) xU)) 1)
def DF:AF:=(AJ (vJ 1))
def vX:AF:=zM (pZ) (zM (qA) (zM (qB) ((DF))))
def aZ(ds:R0)(S:Sto):R Er:=xF (vX (zU IF ds) S)
def BE:AZ:=uJ
def mI:AE:=(dJ yH (kJ (.str [63])) (vJ 0))
def mK:AY:=(BJ (eJ eQ GF (vJ 1) (yJ (dJ yH (dJ sH (kJ (.str [63])) (bJ (yJ (dJ pB (vJ 5) (kJ (.str [118,97,114]))) wJ) GE)) (bJ (yJ (vJ 6) wJ) YU)) wJ)))
def cY:AY:=(mK)
def mL:AY:=(EJ (dJ gL (dJ gL (vJ 0) (kJ (.int 1))) (vJ 2)) (MU 2 (yR (xY 3) (yR (xY 4) nB))))
def BF:AY:=(CJ (dJ yH (dJ yH (vJ 1) (dJ sH (bJ (yJ (kJ (.str [59])) wJ) xU) (bJ (yJ (dJ Sy (vJ 2) (kJ (.int 0))) wJ) GE))) (bJ (yJ (bJ (yJ (vJ 3) wJ) YU) wJ) xU)) 1)
def mP:AY:=(FJ (bJ (vJ 4) Ki) (MU 2 (yR (xY 5) (yR (xY 6) nB))) (cY))
def fX:AY:=zM (mL) (zM (BF) ((mP)))
def tM:AF:=(CJ (dJ yH (pJ (bJ (dJ gL (vJ 0) (kJ (.int 0))) Ki) (xY 0) (BE) (mI) 1 []) (bJ (yJ (kJ (.str [58])) wJ) xU)) 1)
def tN:AF:=(FJ (bJ (yJ (bJ (yJ (dJ gL (vJ 0) (kJ (.int 1))) wJ) kS) wJ) eP) (xY 2) (fX))
def FY:AF:=(AJ (vJ 1))
def DG:AF:=zM (tM) (zM (tN) ((FY)))
def rV(ds:R0)(S:Sto):R Er:=xF (DG (zU CO ds) S)
def tQ:AF:=(CJ (fJ 2 yV (yJ (vJ 1) (yJ (kJ (.int 2147483587)) wJ))) 3)
def FZ:AF:=(CJ (bJ (yJ (kJ (.str [58])) (yJ (kJ (.str [59])) (yJ (kJ (.str [63])) (yJ (kJ (.str [63,63,97])) (yJ (kJ (.str [63,65])) (yJ (kJ (.str [63,97,98,99,100,101,102,103,104,105])) (yJ (kJ (.str [])) (yJ (kJ (.str [48])) (yJ (kJ (.str [49])) (yJ (kJ (.str [51])) (yJ (kJ (.str [52])) (yJ (kJ (.str [45,49])) (yJ (kJ (.str [45,48])) (yJ (kJ (.str [48,49])) (yJ (kJ (.str [97])) (yJ (kJ (.str [65])) (yJ (kJ (.str [97,49])) (yJ (kJ (.str [120,63])) wJ)))))))))))))))))) xU) 4)
def tR:AF:=(CJ (dJ yH (vJ 4) (bJ (yJ (dJ yH (kJ (.str [63])) (dJ gL (vJ 2) (kJ (.int 0)))) (yJ (dJ gL (vJ 2) (kJ (.int 1))) (yJ (dJ yH (kJ (.str [63])) (dJ gL (vJ 2) (kJ (.int 2)))) (yJ (kJ (.str [63,49])) (yJ (kJ (.str [97,98,99,100,101,102,103,104])) (yJ (kJ (.str [97,98,99,100,101,102,103,104,105])) (yJ (dJ sH (kJ (.str [57])) (kJ (.int 30))) (yJ (dJ sH (kJ (.str [57])) (kJ (.int 31))) wJ)))))))) xU)) 4)
def tS:AF:=(CJ (dJ yH (vJ 4) (bJ (yJ (kJ (.str [63,59])) (yJ (kJ (.str [58,63])) (yJ (kJ (.str [55])) (yJ (kJ (.str [43,55])) wJ)))) xU)) 4)
def tU:AF:=(CJ (dJ gL (vJ 4) (dJ jU (dJ nU (vJ 3) (kJ (.int 8))) (kJ (.int 30)))) 5)
def tV:AF:=(CJ (dJ jU (dJ nU (vJ 3) (kJ (.int 240))) (dJ yH (bJ (yJ (vJ 0) wJ) kS) (kJ (.int 1)))) 6)
def tW:AF:=(CJ (dJ jU (vJ 3) (kJ (.int 8))) 7)
def jI:AF:=(iJ (bJ (dJ pB (vJ 7) (kJ (.int 0))) bC) ((AJ (dJ yH (tJ wU (vJ 0) mJ (bJ (vJ 6) EI)) (tJ wU (vJ 0) (bJ (dJ yH (vJ 6) (kJ (.int 1))) EI) mJ)))) (JJ))
def jK:AF:=(iJ (bJ (dJ pB (vJ 7) (kJ (.int 1))) bC) ((AJ (dJ yH (tJ wU (vJ 0) mJ (bJ (dJ yH (vJ 6) (kJ (.int 1))) EI)) (tJ wU (vJ 0) (bJ (vJ 6) EI) mJ)))) (JJ))
def kD:AF:=(iJ (bJ (dJ MW (vJ 7) (kJ (.int 4))) bC) ((AJ (dJ yH (dJ yH (tJ wU (vJ 0) mJ (bJ (vJ 6) EI)) (bJ (yJ (vJ 5) wJ) xU)) (tJ wU (vJ 0) (bJ (dJ yH (vJ 6) (kJ (.int 1))) EI) mJ)))) (JJ))
def kE:AF:=(iJ (bJ (dJ MW (vJ 7) (kJ (.int 6))) bC) ((AJ (dJ yH (dJ yH (tJ wU (vJ 0) mJ (bJ (vJ 6) EI)) (bJ (yJ (vJ 5) wJ) xU)) (tJ wU (vJ 0) (bJ (vJ 6) EI) mJ)))) (JJ))
def kG:AF:=(iJ (bJ (dJ pB (vJ 7) (kJ (.int 6))) bC) ((AJ (dJ yH (dJ yH (tJ wU (vJ 0) mJ (bJ (vJ 6) EI)) (bJ (yJ (eJ jE oF (kJ (.str [])) (yJ (tJ wU (vJ 0) (bJ (vJ 6) EI) (bJ (dJ yH (vJ 6) (kJ (.int 2))) EI)) wJ)) wJ) xU)) (tJ wU (vJ 0) (bJ (dJ yH (vJ 6) (kJ (.int 2))) EI) mJ)))) (JJ))
def eA:AF:=(AJ (vJ 0))
def DH:AF:=zM (tQ) (zM (FZ) (zM (tR) (zM (tS) (zM (tU) (zM (tV) (zM (tW) (zM (jI) (zM (jK) (zM (kD) (zM (kE) (zM (kG) ((eA)))))))))))))
def nK(ds:R0)(S:Sto):R Er:=xF (DH (zU LO ds) S)
def qC:AZ:=(bJ (dJ (JQ true) (vJ 0) (kJ (.str [97,98,99,100,101,102,103,104,105,106,107,108,109,110,111,112,113,114,115,116,117,118,119,120,121,122]))) bC)
def qD:AE:=(vJ 0)
def uV:AF:=(AJ (aJ (jJ MW MW (kJ (.int 0)) (bJ (yJ (vJ 0) wJ) kS) (kJ (.int 9))) (dJ pB (pJ (bJ (vJ 0) Zs) (xY 0) (qC) (qD) 1 []) (bJ wJ xU))))
def qE:AF:=(uV)
def bO(ds:R0)(S:Sto):R Er:=xF (qE (zU [ŉ] ds) S)
def iO:AZ:=(bJ (dJ (JQ true) (vJ 0) (kJ (.str [48,49,50,51,52,53,54,55,56,57]))) bC)
def iQ:AE:=(vJ 0)
def dW:AF:=(CJ (tJ wU (vJ 0) (bJ (bJ (yJ (dJ pB (tJ wU (vJ 0) mJ (bJ (kJ (.int 1)) EI)) (kJ (.str [45]))) wJ) GE) EI) mJ) 1)
def xI:AF:=(iJ (sJ (qJ (bJ (jJ MW MW (kJ (.int 0)) (bJ (yJ (vJ 1) wJ) kS) (kJ (.int 31))) bC)) (bJ (dJ QL (pJ (bJ (vJ 1) Zs) (xY 0) (iO) (iQ) 1 []) (bJ wJ xU)) bC)) ((AJ (kJ (.bl false)))) (JJ))
def qF:AF:=(AJ (oJ (dJ QL (dJ gL (vJ 1) (kJ (.int 0))) (kJ (.str [48]))) (dJ pB (vJ 0) (kJ (.str [48])))))
def fK:AF:=zM (dW) (zM (xI) ((qF)))
def bY(ds:R0)(S:Sto):R Er:=xF (fK (zU fB ds) S)
def wC:AF:=(iJ (rJ (bJ (dJ pB (tJ wU (vJ 0) mJ (bJ (kJ (.int 1)) EI)) (kJ (.str [63]))) bC) (bJ (fJ 1 bO (yJ (tJ wU (vJ 0) (bJ (kJ (.int 1)) EI) mJ) wJ)) gD)) ((AJ (bJ (yJ (kJ (.str [118,97,114])) (yJ (tJ wU (vJ 0) (bJ (kJ (.int 1)) EI) mJ) wJ)) pH))) (JJ))
def wY:AF:=(iJ (bJ (fJ 1 bO (yJ (vJ 0) wJ)) gD) ((AJ (bJ (yJ (kJ (.str [105,115])) (yJ (vJ 0) wJ)) pH))) (JJ))
def wZ:AF:=(iJ (bJ (fJ 1 bY (yJ (vJ 0) wJ)) gD) ((AJ (bJ (yJ (kJ (.str [105,115])) (yJ (bJ (yJ (vJ 0) wJ) GE) wJ)) pH))) (JJ))
def bZ:AF:=(AJ (kJ .non))
def qG:AF:=zM (wC) (zM (wY) (zM (wZ) ((bZ))))
def bP(ds:R0)(S:Sto):R Er:=xF (qG (zU [ŕ] ds) S)
def BG:AZ:=uJ
def mQ:AE:=(fJ 1 bP (yJ (vJ 0) wJ))
def mR:AZ:=(sJ (bJ (dJ JP (vJ 0) (kJ .non)) bC) (bJ (dJ QL (dJ gL (vJ 0) (kJ (.int 0))) (kJ (.str [118,97,114]))) bC))
def BH:AE:=(vJ 0)
def mT:AY:=(iJ (bJ (dJ pB (vJ 4) (kJ (.str [59]))) bC) ((BJ (eJ eQ GF (vJ 3) (yJ (bJ wJ xU) wJ)))) ((BJ (eJ eQ GF (dJ gL (vJ 3) (kJ (.int (-1)))) (yJ (fJ 1 bP (yJ (vJ 4) wJ)) wJ)))))
def gP:AY:=(mT)
def BI:AY:=(iJ (sJ (bJ (dJ pB (vJ 5) (bJ wJ xU)) bC) (sJ (bJ (dJ (JQ false) (kJ .non) (vJ 5)) bC) (sJ (bJ (dJ QL (dJ gL (dJ gL (vJ 5) (kJ (.int 0))) (kJ (.int 0))) (kJ (.str [105,115]))) bC) (bJ (bJ (yJ (dJ gL (dJ gL (vJ 5) (kJ (.int 0))) (kJ (.int 1))) (yJ (kJ (.typ "str")) wJ)) bF) gD)))) ((AJ (kJ .non))) (JJ))
def fY:AY:=(BI)
def mU:AZ:=uJ
def dN:AE:=(bJ (yJ (dJ gL (dJ gL (vJ 0) (kJ (.int 0))) (kJ (.int 1))) (yJ (bJ (yJ (tJ wU (vJ 0) (bJ (kJ (.int 1)) EI) mJ) wJ) hW) wJ)) pH)
def mV:AZ:=uJ
def mW:AE:=(vJ 1)
def cZ:AF:=(iJ (bJ (dJ QL (eJ eQ TD (vJ 0) (yJ (kJ (.str [58])) wJ)) (kJ (.int 1))) bC) ((AJ (kJ .non))) (JJ))
def tX:AF:=(CJ (eJ eQ SV (vJ 0) (yJ (kJ (.str [58])) wJ)) 1)
def tY:AF:=(CJ (pJ (bJ (tJ wU (vJ 0) mJ (bJ (vJ 1) EI)) QS) (xY 0) (BG) (mQ) 1 []) 2)
def fZ:AF:=(iJ (bJ (dJ QL (pJ (bJ (vJ 2) QS) (xY 0) (mR) (BH) 1 []) (bJ wJ xU)) bC) ((AJ (kJ .non))) (JJ))
def tZ:AF:=(CJ (bJ (yJ (bJ wJ xU) wJ) xU) 3)
def uA:AF:=(FJ (bJ (tJ wU (vJ 0) (bJ (dJ yH (vJ 1) (kJ (.int 1))) EI) mJ) QS) (xY 4) (gP))
def iA:AF:=(FJ (bJ (vJ 3) QS) (xY 5) (fY))
def uB:AF:=(CJ (pJ (bJ (vJ 3) QS) (xY 0) (mU) (dN) 1 []) 6)
def uC:AF:=(AJ (bJ (yJ (bJ (yJ (pJ (bJ (vJ 2) QS) (MU 2 (yR (xY 0) (yR (xY 1) nB))) (mV) (mW) 2 []) wJ) hW) (yJ (bJ (yJ (vJ 6) wJ) hW) wJ)) pH))
def rW:AF:=zM (cZ) (zM (tX) (zM (tY) (zM (fZ) (zM (tZ) (zM (uA) (zM (iA) (zM (uB) ((uC)))))))))
def rX(ds:R0)(S:Sto):R Er:=xF (rW (zU nE ds) S)
def cA:AZ:=(bJ (dJ pB (vJ 0) (kJ (.str [118,97,114]))) bC)
def fL:AE:=(vJ 1)
def fM:AY:=(EJ (dJ gL (vJ 3) (vJ 5)) (MU 2 (yR (xY 6) (yR (xY 7) nB))))
def fN:AY:=(iJ (sJ (qJ (bJ (jJ QM MW (kJ (.int 0)) (vJ 6) (bJ (yJ (vJ 0) wJ) kS)) bC)) (bJ (dJ QL (bJ (yJ (vJ 7) wJ) kS) (dJ gL (dJ gL (vJ 0) (vJ 6)) (kJ (.int 0)))) bC)) ((AJ (vJ 5))) (JJ))
def fO:AY:=(CJ (dJ yH (vJ 4) (pJ (bJ (vJ 7) Ki) (MU 2 (yR (xY 0) (yR (xY 1) nB))) (cA) (fL) 2 [])) 4)
def bQ:AY:=zM (fM) (zM (fN) ((fO)))
def fP:AZ:=(bJ (dJ (JQ true) (vJ 0) (vJ 1)) bC)
def uW:AE:=(vJ 0)
def DI:AF:=(EJ (vJ 1) (MU 2 (yR (xY 2) (yR (xY 3) nB))))
def qH:AF:=(CJ (bJ wJ xU) 4)
def eB:AF:=(FJ (bJ (yJ (bJ (yJ (vJ 3) wJ) kS) wJ) eP) (xY 5) (bQ))
def qI:AF:=(iJ (sJ (bJ (dJ Sy (bJ (yJ (vJ 3) wJ) kS) (kJ (.int 4))) bC) (sJ (bJ (dJ Sy (bJ (yJ (vJ 2) wJ) kS) (kJ (.int 4))) bC) (bJ (dJ MW (bJ (yJ (vJ 2) wJ) LN) (bJ (yJ (vJ 2) wJ) kS)) bC))) ((AJ (bJ (yJ (vJ 3) wJ) kS))) (JJ))
def qK:AF:=(iJ (bJ (dJ QL (pJ (bJ (vJ 2) Ki) (xY 0) (fP) (uW) 1 [4]) (bJ wJ xU)) bC) ((AJ (bJ (yJ (vJ 3) wJ) kS))) (JJ))
def DL:AF:=(AJ (kJ .non))
def oV:AF:=zM (DI) (zM (qH) (zM (eB) (zM (qI) (zM (qK) ((DL))))))
def oW(ds:R0)(S:Sto):R Er:=xF (oV (zU oS ds) S)
def dY:AY:=(CJ (dJ yH (fJ 1 aZ (yJ (vJ 6) wJ)) (bJ (yJ (bJ (vJ 6) (Nj XNS)) wJ) xU)) 4)
def dZ:AY:=(iJ (bJ (dJ pB (vJ 2) (kJ (.int 8))) bC) ((CJ (bJ (vJ 6) (Og XNS "place")) 5)) (JJ))
def fQ:AY:=zM (dY) ((dZ))
def qL:AZ:=uJ
def qM:AE:=(dJ pB (vJ 0) (vJ 1))
def fR:AF:=(CJ (bJ wJ xU) 4)
def uX:AF:=(CJ (vJ 3) 5)
def fS:AF:=(HJ XNS 6 fQ 2 yD (yJ (vJ 0) (yJ (vJ 1) wJ)))
def fU:AF:=(AJ (aJ (dJ pB (vJ 4) (dJ yH (pJ (bJ (yJ (kJ (.int 12)) wJ) eP) (xY 0) (qL) (qM) 1 [2]) (bJ (yJ (kJ (.bl true)) wJ) xU))) (aJ (dJ pB (vJ 5) (vJ 3)) (nJ (bJ (yJ (vJ 5) (yJ (kJ (.typ "bool")) wJ)) bF)))))
def qO:AF:=zM (fR) (zM (uX) (zM (fS) ((fU))))
def wI(ds:R0)(S:Sto):R Er:=xF (qO (zU pL ds) S)
def qP:AF:=(CJ (fJ 1 rX (yJ (eJ jE GK (vJ 1) (yJ (kJ (.str [32])) wJ)) wJ)) 2)
def bR:AF:=(iJ (bJ (dJ JP (vJ 2) (kJ .non)) bC) ((AJ (fJ 4 wI (yJ (vJ 0) (yJ (vJ 1) (yJ (kJ (.int 5)) (yJ (kJ (.int 0)) wJ))))))) (JJ))
def qQ:AF:=(CJ (fJ 2 oW (yJ (vJ 0) (yJ (vJ 2) wJ))) 3)
def bS:AF:=(iJ (bJ (dJ SR (vJ 3) (kJ .non)) bC) ((AJ (fJ 4 wI (yJ (vJ 0) (yJ (vJ 1) (yJ (kJ (.int 8)) (yJ (vJ 3) wJ))))))) (JJ))
def DM:AF:=(AJ (fJ 2 (xW 8) (yJ (fJ 2 yD (yJ (vJ 0) (yJ (vJ 1) wJ))) (yJ (vJ 2) wJ))))
def vY:AF:=zM (qP) (zM (bR) (zM (qQ) (zM (bS) ((DM)))))
def cB(ds:R0)(S:Sto):R Er:=xF (vY (zU IG ds) S)
def KE:AZ:=uJ
def ES:AE:=(fJ 2 yG (yJ (vJ 1) (yJ (dJ yH (kJ (.int 3)) (vJ 0)) wJ)))
def ET:AY:=(CJ (fJ 3 nK (yJ (vJ 6) (yJ (fJ 2 yG (yJ (vJ 0) (yJ (dJ yH (kJ (.int 8)) (vJ 7)) wJ))) (yJ (vJ 1) wJ)))) 6)
def KF:AY:=(CJ (dJ gL (bJ (yJ (kJ (.str [32])) (yJ (kJ (.str [32,32])) (yJ (kJ (.str [32])) wJ))) xU) (dJ jU (dJ jU (dJ nU (fJ 2 yG (yJ (vJ 0) (yJ (kJ (.int 11)) wJ))) (dJ yH (vJ 7) (kJ (.int 1)))) (kJ (.int 7))) (kJ (.int 3)))) 8)
def KG:AY:=(CJ (dJ yH (dJ yH (eJ jE oF (kJ (.str [32])) (yJ (tJ wU (vJ 6) mJ (bJ (kJ (.int 3)) EI)) wJ)) (vJ 8)) (eJ jE oF (kJ (.str [32])) (yJ (tJ wU (vJ 6) (bJ (kJ (.int 3)) EI) mJ) wJ))) 9)
def KH:AY:=(iJ (sJ (qJ (bJ (fJ 2 cB (yJ (vJ 3) (yJ (vJ 9) wJ))) gD)) (qJ (bJ (fJ 2 cB (yJ (vJ 3) (yJ (eJ jE oF (kJ (.str [32])) (yJ (vJ 6) wJ)) wJ))) gD))) ((AJ (kJ (.bl false)))) (JJ))
def MZ:AY:=zM (ET) (zM (KF) (zM (KG) ((KH))))
def TJ:AY:=(iJ (qJ (bJ (fJ 4 wI (yJ (vJ 3) (yJ (vJ 10) (yJ (kJ (.int 5)) (yJ (kJ (.int 0)) wJ))))) gD)) ((AJ (kJ (.bl false)))) (JJ))
def VL:AY:=(TJ)
def VM:AF:=(CJ (fJ 2 hZ (yJ (fJ 2 yG (yJ (vJ 0) (yJ (kJ (.int 0)) wJ))) (yJ (kJ (.int 6)) wJ))) 1)
def VN:AF:=(CJ (fJ 1 nH (yJ (fJ 2 yG (yJ (vJ 0) (yJ (kJ (.int 1)) wJ))) wJ)) 2)
def VO:AF:=(CJ (fJ 2 gO (yJ (fJ 2 yG (yJ (vJ 0) (yJ (kJ (.int 2)) wJ))) (yJ (kJ (.int 4)) wJ))) 3)
def VR:AF:=(CJ (dJ yH (kJ (.int 1)) (dJ jU (dJ nU (fJ 2 yG (yJ (vJ 0) (yJ (kJ (.int 3)) wJ))) (kJ (.int 64))) (kJ (.int 4)))) 4)
def VS:AF:=(CJ (pJ (bJ (yJ (dJ yH (kJ (.int 1)) (vJ 4)) wJ) eP) (xY 0) (KE) (ES) 1 [0]) 5)
def VT:AF:=(CJ (fJ 1 rV (yJ (fJ 5 wQ (yJ (vJ 5) (yJ (vJ 3) (yJ (vJ 1) (yJ (vJ 2) (yJ (kJ (.int 7)) wJ)))))) wJ)) 6)
def VU:AF:=(iJ (qJ (bJ (fJ 2 cB (yJ (vJ 3) (yJ (eJ jE oF (kJ (.str [32])) (yJ (vJ 6) wJ)) wJ))) gD)) ((AJ (kJ (.bl false)))) (JJ))
def VV:AF:=(FJ (bJ (yJ (kJ (.int 3)) wJ) eP) (xY 7) (MZ))
def VW:AF:=(FJ (bJ (bJ (yJ (kJ .non) (yJ (kJ (.int 7)) (yJ (kJ (.bl true)) (yJ (bJ (yJ (kJ (.str [58,32,48])) wJ) pH) (yJ (bJ (yJ (kJ (.str [58])) wJ) xU) wJ))))) xU) QS) (xY 10) (VL))
def Ou:AF:=(AJ (kJ (.bl true)))
def Xi:AF:=zM (VM) (zM (VN) (zM (VO) (zM (VR) (zM (VS) (zM (VT) (zM (VU) (zM (VV) (zM (VW) ((Ou))))))))))
def TL(ds:R0)(S:Sto):R Er:=xF (Xi (zU Fz ds) S)
section
variable{r:R α}
theorem ev_v(e:ρ[i]? =some (some d)):vJ i ρ S=.ok (.val d) S:=by unfold vJ;rw[e];rfl
def ev_b{f:Rho->Sto->R β}(e:f ρ S=.ok a S1)(k:F a S1=r):bJ f F ρ S=r:=by unfold bJ;rw[e];exact k
def ev_d(e:f ρ S=.ok p S1)(a:g ρ S1=.ok q S2)(k:F p q S2=z):dJ F f g ρ S=z:=by unfold dJ;rw[e,cW,a];exact k
def ev_i{f g:Rho->Sto->R α}(e:c ρ S=.ok k S1)(h:(if k=true then f ρ S1 else g ρ S1)=r):iJ c f g ρ S=r:=by unfold iJ;rw[e];exact h
def ev_t{g h:Rho->Sto->R (Option Int)}(e:f ρ S=.ok p S1)(d:g ρ S1=.ok a S2)(i:h ρ S2=.ok b S3)(k:F p a b S3=z):tJ F f g h ρ S=z:=by unfold tJ;rw[e,cW,d,cW,i];exact k
def ev_f(e:a ρ S=.ok rs S1)(k:yC n F rs S1=z):fJ n F a ρ S=z:=by unfold fJ;rw[e];exact k
def ev_e(e:f ρ S=.ok p S1)(b:t p S1=true)(d:a ρ S1=.ok rs S2)(k:F p rs S2=z):eJ t F f a ρ S=z:=by unfold eJ;rw[e,cW,iP b,d];exact k
def ev_p{g:MV->Rho->Sto->R Rho}(e:i ρ S=.ok k S1)(b:k.ds.length<1000000)(a:xV g c f (vD n I ρ) k.gs k.ds S1=.ok o S2)(h:.ok (.new o) S2=z):pJ i g c f n I ρ S=z:=by unfold pJ;rw[e,cW,iP b,a];exact h
theorem ev_q{f:AZ}(e:f ρ S=.ok k S1):qJ f ρ S=.ok (!k) S1:=by unfold qJ;rw[e];rfl
def ev_s{f g:AZ}{r:R Bool}(e:f ρ S=.ok k S1)(h:(if k=true then .ok true S1 else g ρ S1)=r):sJ f g ρ S=r:=by unfold sJ;rw[e];exact h
theorem ev_y{g:Rho->Sto->R (List Er)}(e:f ρ S=.ok p S1)(a:g ρ S1=.ok l S2):yJ f g ρ S=.ok (p::l) S2:=by unfold yJ;rw[e,cW,a];rfl
def ev_A(e:f ρ S=.ok p S1)(k:.ok (.ret p) S1=y):AJ f ρ S=y:=by unfold AJ;rw[e];exact k
def ev_B(e:f ρ S=.ok p S1)(k:.ok (.next ρ) S1=y):BJ f ρ S=y:=by unfold BJ;rw[e];exact k
def ev_C(e:f ρ S=.ok p S1)(k:MC ρ i p S1=y):CJ f i ρ S=y:=by unfold CJ;rw[e];exact k
def ev_D{r:R Rho}(e:f ρ S=.ok p S1)(a:g ρ S1=.ok q S2)(k:F p q d ρ S2=r):DJ F f g d ρ S=r:=by unfold DJ;rw[e,cW,a];exact k
def ev_E{g:MV->Rho->Sto->R Rho}(e:f ρ S=.ok (.val d) S1)(k:g d ρ S1=.ok ρ' S2)(h:.ok (.next ρ') S2=y):EJ f g ρ S=y:=by unfold EJ;rw[e];show(g d ρ S1).bind _=_;rw[k];exact h
def ev_F{g:MV->Rho->Sto->R Rho}(e:i ρ S=.ok k S1)(h:bA g b k.gs k.ds ρ S1=y):FJ i g b ρ S=y:=by unfold FJ;rw[e];exact h
def X6(h:a=r):(if true=true then a else b)=r:=h
def X7(h:b=r):(if false=true then a else b)=r:=h
end
section
def modA(h:0<b:=by first |decide|omega):jU #[a,5] #[b,5] S=.ok #[a % b,5] S:=mod_lit h a S
def divA(h:0<b/\b<1073741824:=by first |decide|omega):nU #[a,5] #[b,5] S=.ok #[a / b,5] S:=xG h.1 h.2 a S
def mulA(h: -(2 ^ 64)<a/\a<2 ^ 64:=by decide):sH #[a,5] #[b,5] S=.ok #[a * b,5] S:=Nf h b S
def mulB(h:0<=b/\b<4294967296:=by first |exact mdl|decide|omega):sH #[a,5] #[b,5] S=.ok #[a * b,5] S:=MY ⟨by omega,by omega⟩ a S
end
set_option bootstrap.genMatcherCode true in
local macro_rules
 | `(tactic|exists 7,$[$hs],*)=>`(tactic|first
  |(with_reducible first $[|exact $hs ..]*)
  |((with_reducible first |apply ev_v|apply ev_b|apply ev_d|apply ev_y|apply ev_f|apply ev_C|apply ev_A|apply ev_i|apply X6|apply X7|apply ev_F|apply ev_p|apply ev_e|apply ev_B|apply ev_r|apply ev_s|apply ev_q|apply ev_a|apply ev_o|apply ev_n|apply ev_t|apply ev_g|apply ev_E|apply ev_D)<;>exists 7,$[$hs],*)
  |(with_reducible first |exact eq_int .. |exact tup2 .. |exact W2 .. |exact W1 .. |exact lst1 .. |exact lst2 .. |exact B4 ..)
  |(with_reducible show jU _ _ _=_);exact modA
  |(with_reducible show nU _ _ _=_);exact divA
  |(with_reducible show sH _ _ _=_);(first |exact mulA|exact mulB)
  |(with_reducible show eP _ _=_);exact lG (by omega)
  |(with_reducible show xV _ _ _ _ _ _ _=_);(first $[|exact $hs]*)
  |(with_reducible show bA _ _ _ _ _ _=_);(first $[|exact $hs]*)
  |(with_reducible first $[|exact of_eq_true $hs]* $[|refine ite_d $hs ?_]* $[|refine ite_n $hs ?_]* $[|refine(iP $hs).trans ?_]* $[|refine(iN0 $hs).trans ?_]*)<;>exists 7,$[$hs],*
  |exact rfl)
noncomputable def abc:List Nat:=[97,98,99,100,101,102,103,104,105,106,107,108,109,110,111,112,113,114,115,116,117,118,119,120,121,122]
theorem Js(c n)(x)(s)(S)(h:x.length<=1000): ∃k,(97<=k/\k<=122)/\fW [#[c,0],#[abc,4],#[n,0],#[x,4],s] S=
  .ok (.next [#[c,0],#[abc,4],#[n / 26,0],#[x++[k],4],s]) S:=by
 obtain⟨k,a⟩:=dF (xs:=abc) (i:=n % 26) (eN _ ↑4) (by have:=eL n (show _<26 by decide);show n % 26<26;exact this);refine⟨k,dG (P:=λk=>97<=k/\k<=122) ↑4 a,?_⟩;have b:lU [#[c,0],#[abc,4],#[n,0],#[x,4],s] S=.ok (.next [#[c,0],#[abc,4],#[n,0],#[x++[k],4],s]) S:=by unfold lU;simp? [mod_lit (show _<26 by decide),ix_str (by rw[ý];decide) a];rw[add_str (fits (by rw[lS];lia))];rfl
 have d:lV [#[c,0],#[abc,4],#[n,0],#[x++[k],4],s] S=.ok (.next [#[c,0],#[abc,4],#[n / 26,0],#[x++[k],4],s]) S:=by unfold lV;exists 7,xG (show _<26 by decide) ↑4
 unfold fW;rw[zD b,d]
theorem TN(c)(S): ∀ a  n  x  s ,x.length+a.length<=1000->(∀c∈x,97<=c/\c<=122)-> ∃f b i,bA (xY 4) fW [] a [#[c,0],#[abc,4],#[n,0],#[x,4],s] S=
  .ok (.next [#[c,0],#[abc,4],#[f,0],#[b,4],i]) S/\b.length=x.length+a.length/\ ∀c∈b,97<=c/\c<=122
 |[],n,x,s,_,hx=>⟨n,x,s,rfl,rfl,hx⟩
 |d::a,n,x,s,h,hx=>by
  rw[lC0]at h;obtain⟨k,q,o⟩:=Js c n x _ S (by lia)
  obtain⟨f,b,i,j,m,p⟩:=TN c S a _ (x++[k]) _ (by rw[lA,lS];lia) (by
   intro c e;rw[ê,mS0]at e;rcases e with e|rfl
   .exact hx c e
   .exact q)
  refine⟨f,b,i,?_,by rw[m,lA,lS,lC0];lia,p⟩;rw[yM rfl o (xZ S)];exact j
theorem Vb(c)(S): ∃x,nG [.int c] S=.ok (.val (.str x)) S/\Nm x:=by
 have f:0<=c % 8:=eN _ ↑4;have i:c % 8<8:=eL _ ↑4;have a:((List.range (1+c % 8).toNat).map λk=>MV.int (k:Nat)).length=(1+c % 8).toNat:=by rw[lM0,ĭ]
 obtain⟨m,b,h,j,n,q⟩:=TN c S _ (c / 8) [] none (by rw[a];simp only[ë];lia) (by simp);rw[a,ë]at n;refine⟨b,?_,by lia,by lia,q⟩;have d:FU [#[c,0],none,none,none,none] S=.ok (.next [#[c,0],#[abc,4],none,none,none]) S:=rfl;have p:sT [#[c,0],#[abc,4],none,none,none] S=.ok (.next [#[c,0],#[abc,4],#[c / 8,0],none,none]) S:=by unfold sT;exists 7,xG (show _<8 by decide) ↑4
 have e:FV [#[c,0],some _,some _,none,none] S=.ok (.next [#[c,0],#[abc,4],#[c / 8,0],some _,none]) S:=rfl;have o:sU [#[c,0],#[abc,4],#[c / 8,0],#[[],4],none] S=.ok (.next [#[c,0],#[abc,4],#[m,0],#[b,4],h]) S:=by unfold sU;simp? [mod_lit (show _<8 by decide)];rw[lG (by lia),cW];exact j
 have hs:zU CK [.int c]=[#[c,0],none,none,none,none]:=rfl;unfold nG LT;rw[hs,zD d,zD p,zD e,zD o];rfl
theorem X8(S):JN #[10,5] #[60,5] S=.ok #[10 ^ 60,5] S:=rfl
theorem X9(S):JN #[10,5] #[30,5] S=.ok #[10 ^ 30,5] S:=rfl
theorem KI(c p)(j:0<p/\p<4294967296)(S): ∃n,yC 2 yV [#[c,5],#[p,5]] S=.ok #[n,5] S:=by
 have hs:zU GM [.int c,.int p]=[#[c,0],#[p,0],none]:=rfl;have e:(0:Int)<(10 ^ 60) ^ 10:=Int.pow_pos (Int.pow_pos ↑4);have f:vT [#[c,0],#[p,0],none] S=if decide (c % 2=0)=true then .ok (.ret #[c / 2 % (10 ^ 60) ^ 10,5]) S else .ok (.next [#[c,0],#[p,0],none]) S:=by unfold vT;exists 7,mod_lit (show(0:Int)<2 by decide),xG (show(0:Int)<2 by decide) ↑4,X8,p600,mod_lit e
 have b: ∀n,yV [.int c,.int p] S=.ok _ S-> ∃n,yC 2 yV [#[c,5],#[p,5]] S=.ok #[n,5] S:=λn h=>⟨n,eZ rfl h (sI _ _) (λl=>by simp)⟩
 cases k:decide (c % 2=0)with
 |true=>
  refine b (c / 2 % (10 ^ 60) ^ 10) ?_;rw[k,iP rfl]at f;unfold yV GP;rw[hs,yL f];rfl
 |false=>
  rw[k,iN0 xF0]at f;have d:0<=(c % 2147483629+7) * 48271 % p:=eN _ (by omega);have i:(c % 2147483629+7) * 48271 % p<p:=eL _ j.1;have o:vU [#[c,0],#[p,0],none] S=.ok (.next [#[c,0],#[p,0],#[(c % 2147483629+7) * 48271 % p,0]]) S:=by unfold vU;exists 7,mod_lit (show(0:Int)<2147483629 by decide),MY (show -(2 ^ 64)<(48271:Int)/\_<2 ^ 64 by decide),mod_lit j.1
  generalize _ * 48271 % p=m at d i o;have q:vV [#[c,0],#[p,0],#[m,0]] S=.ok (.ret #[m * m % 2147483579 * 1000003+m,5]) S:=by unfold vV;exists 7,mul_31 (a:=m) ⟨d,by omega⟩,mod_lit (show(0:Int)<2147483579 by decide),MY (show -(2 ^ 64)<_/\(1000003:Int)<2 ^ 64 by decide)
  refine b (m * m % 2147483579 * 1000003+m) ?_;unfold yV GP;rw[hs,zD f,zD o,q];rfl
def Ga: ∀k,k<26->strIdx abc [97+k]=some k:=by decide+kernel
noncomputable abbrev P8(c n:Int)(a b d x5 x6 x7:T0):Rho:=[#[c,0],#[n,0],a,b,d,x5,x6,x7]
section
variable{at':Int}
theorem po4:sX (P8 c n a b x4 x5 x6 x7) S=.ok (.next (P8 c (n / 1670616516608) a b x4 x5 x6 x7)) S:=by unfold sX;exists 7,rfl
theorem po5(b:Nm x):sY (P8 c n a #[x,4] x4 x5 x6 x7) S=.ok (.next (P8 c n a #[x,4] #[n % x.length,0] x5 x6 x7)) S:=by
 have e:kS [.val (.str x)] S=.ok _ S:=iP (fits (by have:=b.2.1;lia));have d:(0:Int)<(x.length:Int):=by have:=b.1;lia
 unfold sY;exists 7,e,mod_lit d
theorem po6(b:Nm x)(e:0<=at')(f:at'<x.length): ∃h,sZ (P8 c n #[abc,4] #[x,4] #[at',0] x5 x6 x7) S=.ok (.next (P8 c n #[abc,4] #[x,4] #[at',0] #[h,0] x6 x7)) S:=by
 obtain⟨k,d⟩:=dF e f;obtain⟨m,j⟩:=dG b.2.2 d;have hi:=Ga (k - 97) (by lia);rw[show 97+_=k by lia]at hi;have a:OP (.val (.str abc)) [.val (.str [k])] S=.ok #[((k - 97:Nat):Int),5] S:=by show(match strIdx abc [k]with |some i=>R.ok _ S|none=>.no)=_;rw[hi]
 refine⟨((k - 97:Nat):Int)+1+n / 8 % 25,?_⟩;unfold sZ;simp? [ix_str (fits (by have:=b.2.1;lia)) d,show jE (.val (.str abc)) S=true from rfl,a,xG (show _<8 by decide) ↑4,mod_lit (show _<25 by decide)]
theorem po7(b:Nm x)(j:0<=at')(q:at'<x.length): ∃y,Nm y/\tB (P8 c n #[abc,4] #[x,4] #[at',0] #[tn,0] x6 x7) S=.ok (.next (P8 c n #[abc,4] #[x,4] #[at',0] #[tn,0] #[y,4] x7)) S:=by
 obtain⟨k,h⟩:=dF (xs:=abc) (i:=tn % 26) (eN _ ↑4) (by have:=eL tn (show(0:Int)<26 by decide);show tn % 26<26;exact this);have d:=dG (P:=λk=>97<=k/\k<=122) ↑4 h;have p:cU x none _=x.take at'.toNat:=Fm _ _ j
 have e:cU x (some (at'+1)) none=x.drop (at'.toNat+1):=by
  unfold cU;have m:HT.sIx x.length 0 (some (at'+1))=at'.toNat+1:=by unfold HT.sIx;simp only;split<;>lia
  have o:HT.sIx x.length x.length none=x.length:=rfl;rw[m,o];rw[ę (by rw[ú];lia)]
 have f:=b.2.1;refine⟨x.take at'.toNat++[k]++x.drop (at'.toNat+1),⟨?_,?_,?_⟩,?_⟩
 .simp only[lA,lS];lia
 .simp only[lA,lS,lT,ú];omega
 .intro z a;rw[ê,ê,mS0]at a;rcases a with(a|rfl)|a
  .exact b.2.2 z (mem_of_mem_take a)
  .exact d
  .exact b.2.2 z (mem_of_mem_drop a)
 .unfold tB;simp? [cut_str (S:=S) (fits (show x.length<=1000000 by omega)),p,mod_lit (show _<26 by decide),ix_str (by rw[ý];decide) h,e];rw[add_str (fits (by rw[lS,lT];omega)),cW];simp? [cut_str (S:=S) (fits (show x.length<=1000000 by omega)),e];rw[add_str (fits (by simp only[lA,lS,lT,ú];omega)),cW];rfl
def po8:tD (P8 c n a b x4 x5 x6 x7) S=.ok (.next (P8 c (n / 200) a b x4 x5 x6 x7)) S:=by unfold tD;exists 7,xG (show _<200 by decide) ↑4
theorem po9: ∃g,(1<=g/\g<=10 ^ 30 - 3)/\tE (P8 c n a b x4 x5 x6 x7) S=.ok (.next (P8 c n a b x4 x5 x6 #[g,0])) S:=by
 have f:0<=n % 10 ^ 30:=eN _ ↑4;have h:n % 10 ^ 30<10 ^ 30:=eL _ ↑4;have i:0<=(n % 10 ^ 30 * 48271+11) ^ (4:Int).toNat % (10 ^ 30 - 3):=eN _ ↑4;have k:(n % 10 ^ 30 * 48271+11) ^ (4:Int).toNat % _<10 ^ 30 - 3:=eL _ ↑4
 have e:Mg (n % 10 ^ 30 * 48271+11) 4:=by
  refine⟨by decide,?_⟩
  have j:Builtin.Int.intBits (n % 10 ^ 30 * 48271+11)<=200:=by
   unfold Builtin.Int.intBits;split
   .lia
   .rename_i m;have d:(n % 10 ^ 30 * 48271+11).natAbs≠0:=by lia
    have:=(log2_lt d).mpr (show(n % 10 ^ 30 * 48271+11).natAbs<2 ^ 199 by lia)
    lia
  lia
 refine⟨(n % 10 ^ 30 * 48271+11) ^ (4:Int).toNat % (10 ^ 30 - 3)+1,⟨by lia,by lia⟩,?_⟩;unfold tE;simp? [X9,mod_lit (show _<10 ^ 30 by decide),MY (show -_<_/\(48271:Int)<2 ^ 64 by decide),Tx e,mod_lit (show _<10 ^ 30 - 3 by decide)]
theorem po10(h:1<=g/\g<=10 ^ 30 - 3): ∃d,(1<=d/\d<=10 ^ 30 - 3)/\aI (P8 c n a b x4 x5 x6 #[g,0]) S=.ok (.next (P8 c n a b x4 x5 x6 #[d,0])) S:=by
 have i:n / 2 % _<10 ^ 30 - 3:=eL _ ↑4;have e:aI (P8 c n a b x4 x5 x6 #[g,0]) S=if decide (n % 2=1)=true then .ok (.next (P8 c n a b x4 x5 x6 #[n / 2 % (10 ^ 30 - 3)+1,0])) S else .ok (.next (P8 c n a b x4 x5 x6 #[g,0])) S:=by unfold aI;exists 7,mod_lit (show _<2 by decide),xG (show _<2 by decide) ↑4,X9,mod_lit (show _<10 ^ 30 - 3 by decide)
 cases f:decide (n % 2=1)with
 |true=>exact⟨n / 2 % (10 ^ 30 - 3)+1,⟨by lia,by lia⟩,by rw[e,f,iP rfl]⟩
 |false=>exact⟨g,h,by rw[e,f,iN0 xF0]⟩
def lst7(a b c d e f g)(S):xU [.val a,.val b,.val c,.val d,.val e,.val f,.val g] S=.ok (.new [a,b,c,d,e,f,g]) S:=hX (by simp)
theorem po11(i:1<=g/\g<=10 ^ 30 - 3)(f:Nm x)(h:Nm y): ∃b,b.length=7/\(∀d∈b,Vl d)/\pO (P8 c n a #[x,4] x4 x5 #[y,4] #[g,0]) S=.ok (.ret (.new b)) S:=by
 refine⟨[.int (n / 64 % 5),.int g,.str x,.int (0 - g),.str y,.int (n / 320 % 5+7),.int (g+1)],rfl,?_,?_⟩
 .intro d e;simp only[mC,nM,or_false]at e;rcases e with rfl|rfl|rfl|rfl|rfl|rfl|rfl
  .exact⟨by lia,by lia⟩
  .exact⟨by lia,by lia⟩
  .exact f
  .exact⟨by lia,by lia⟩
  .exact h
  .exact⟨by lia,by lia⟩
  .exact⟨by lia,by lia⟩
 .unfold pO;exists 7,xG (show _<64 by decide) ↑4,mod_lit (show _<5 by decide),xG (show _<320 by decide) ↑4,lst7
end
theorem Vc(c)(S): ∃f,f.length=7/\(∀d∈f,Vl d)/\yC 1 nH [#[c,5]] S=.ok (.new f) S:=by
 obtain⟨n,t⟩:=KI c 2147483587 ⟨by decide,by decide⟩ S;obtain⟨x,w,b⟩:=Vb n S;have r:yC 1 nG [#[n,5]] S=.ok _ S:=eZ rfl w (dS _ x) (λl=>by simp);have hs:zU CL [.int c]=[#[c,0],none,none,none,none,none,none,none]:=rfl;have m:sV [#[c,0],none,none,none,none,none,none,none] S=.ok (.next (P8 c n none none none none none none)) S:=by unfold sV;exists 7,t
 have B:FW (P8 c n none none none none none none) S=.ok (.next (P8 c n #[abc,4] none none none none none)) S:=rfl;have p:sW (P8 c n #[abc,4] none none none none none) S=.ok (.next (P8 c n #[abc,4] #[x,4] none none none none)) S:=by unfold sW;exists 7,r
 have C:0<x.length:=by have:=b.1;lia
 have a:0<=n / 1670616516608 % (x.length:Int):=eN _ (by lia);have e:n / 1670616516608 % _<x.length:=eL _ (by lia);obtain⟨tn,z⟩:=po6 (c:=c) (x5:=none) (x7:=none) (S:=S) b a e;obtain⟨y,o,A⟩:=po7 (c:=c) (tn:=tn) (x6:=none) (x7:=none) (S:=S) b a e;obtain⟨g,q,u⟩:=po9 (c:=c) (x7:=none) (S:=S);obtain⟨D,j,h⟩:=po10 (c:=c) (S:=S) q;obtain⟨f,s,k,i⟩:=po11 (c:=c) (S:=S) j b o;refine⟨f,s,k,YW (T:=[]) rfl ?_ (kN λd v=>(k d v).lo _)⟩;rw[aN];show nH [.int c] S=_;unfold nH LU;rw[hs,zD m,zD B,zD p,zD po4,zD (po5 b),zD z,zD A,zD po8,zD u,zD h,i];rfl
def vZ(e:S[l]? =#[a,2])(b:a.length<1000000):GF #[l,1] [.val d] S=.ok (.val .non) (S.set l (.lst (a++[d]))):=by show QV #[l,1] S (λa=>if a.length<sizeLine then some _ else none)=_;unfold QV;dsimp only;rw[e];dsimp only;rw[iP (æ b (fits (à _)))]
theorem cE(a:S[l]? =#[ds,2]):eQ #[l,1] S=true:=by unfold eQ;rw[kC a];rfl
def Ov(b:S[l]? =#[ds,2])(a:QK ds.length k=some j):YV #[l,1] #[k,5] d ρ S=.ok ρ (S.set l (.lst (ds.set j d))):=by unfold YV;dsimp only;rw[b];dsimp only;rw[a]
def get_set{S:Sto}(h:S[l]? =some o):(S.set l o')[l]? =some o':=Ċ (gS.mp h).1
def EU(a:S[l]? =#[ds,2]):hW [#[l,1]] S=.ok #[ds,6] S:=by show(match cJ S _ with |some ds=>R.ok _ S|none=>.no)=_;rw[kC a]
theorem gY(ds)(S):kS [#[ds,6]] S=.ok #[ds.length,5] S:=rfl
theorem Gb(gf)(ρ)(d)(S):Sn gf ρ (.val d) S=(gf d ρ S).bind λa b=>.ok (.next a) b:=rfl
noncomputable def tbl(p:Int×Int):MV:=.tup [.int p.1,.int p.2]
def ZS(ts:Tk):Prop:=1<=ts.length/\ts.length<=4/\ ∀p∈ts,1<=p.1/\p.1<=4/\0<=p.2/\p.2<=p.1
noncomputable abbrev P7(c m n k:MV)(l:Nat)(x5 x6:T0):Rho:=[some c,some m,some n,some k,#[l],x5,x6]
theorem Ow(b:S[l]? =#[ts.map tbl,2])(r:ts.length<1000):
  ∃p d,(1<=p.1/\p.1<=4/\0<=p.2/\p.2<=p.1)/\dL (P7 c m (.int n) k l x5 x6) S=.ok (.next (P7 c m (.int d) k l x5 #[p.1,0])) (S.set l (.lst ((ts++[p]).map tbl))):=by
 have j:0<=n % 4:=eN _ ↑4;have o:n % 4<4:=eL _ ↑4;have a:(0:Int)<1+n % 4+1:=by lia
 have f:0<=n / 4 % (1+n % 4+1):=eN _ (by lia);have q:n / 4 % (1+n % 4+1)<1+n % 4+1:=eL _ a;refine⟨(1+n % 4,n / 4 % (1+n % 4+1)),n / 20,⟨by show 1<=1+n % 4;lia,by show 1+n % 4<=4;lia,f,by show n / 4 % (1+n % 4+1)<=1+n % 4;lia⟩,?_⟩;have e:aM (P7 c m (.int n) k l x5 x6) S=.ok (.next (P7 c m (.int n) k l x5 #[1+n % 4,0])) S:=by unfold aM;exists 7,mod_lit (show(0:Int)<4 by decide)
 have i:aO (P7 c m (.int n) k l x5 #[1+n % 4,0]) S=.ok (.next (P7 c m (.int n) k l x5 #[1+n % 4,0])) (S.set l (.lst ((ts++[(1+n % 4,n / 4 % (1+n % 4+1))]).map tbl))):=by unfold aO;simp? [cE b,xG (show(0:Int)<4 by decide) ↑4,mod_lit a,vZ b (by rw[lM0];lia)];rw[ï];rfl
 have h:aP (P7 c m (.int n) k l x5 #[1+n % 4,0]) (S.set l (.lst ((ts++[(1+n % 4,n / 4 % (1+n % 4+1))]).map tbl)))=.ok (.next (P7 c m (.int (n / 20)) k l x5 #[1+n % 4,0])) (S.set l (.lst ((ts++[(1+n % 4,n / 4 % (1+n % 4+1))]).map tbl))):=by unfold aP;exists 7,xG (show(0:Int)<20 by decide) ↑4
 unfold dL;rw[zD e,zD i,h]
theorem Jt(c)(S): ∃ts,ZS ts/\yC 2 gO [#[c,5],#[4,5]] S=.ok #[ts.map tbl,6] S:=by
 obtain⟨n,F⟩:=KI c 2147483629 ⟨by decide,by decide⟩ S;have M:0<=n % 4:=eN _ ↑4;have O:n % 4<4:=eL _ ↑4;have hs:zU sM [.int c,.int 4]=[#[c,0],#[4,0],none,none,none,none,none]:=rfl;have A:lW [#[c,0],#[4,0],none,none,none,none,none] S=.ok (.next [#[c,0],#[4,0],#[n,0],none,none,none,none]) S:=by unfold lW;exists 7,F
 have K:lX [#[c,0],#[4,0],#[n,0],none,none,none,none] S=.ok (.next [#[c,0],#[4,0],#[n,0],#[1+n % 4,0],none,none,none]) S:=by unfold lX;exists 7,mod_lit (show(0:Int)<4 by decide)
 have C:lY [#[c,0],#[4,0],#[n,0],#[1+n % 4,0],none,none,none] S=.ok (.next [#[c,0],#[4,0],#[n / 4,0],#[1+n % 4,0],none,none,none]) S:=by unfold lY;exists 7,xG (b:=4) ↑4 ↑4
 have H:lZ [#[c,0],#[4,0],#[n / 4,0],#[1+n % 4,0],none,none,none] S=.ok (.next (P7 (.int c) (.int 4) (.int (n / 4)) (.int (1+n % 4)) ↑5 none none)) (S++[.lst []]):=by unfold lZ;exists 7,rfl
 have h:((List.range (1+n % 4).toNat).map λk=>MV.int (k:Nat)).length=(1+n % 4).toNat:=by rw[lM0,ĭ]
 obtain⟨I,y,e,x5,x6,a,ts,f,u,s,v⟩:=A7 (L:=(List.range (1+n % 4).toNat).map λk=>MV.int (k:Nat)) (gf:=xY 5) (body:=dL) (gs:=[]) (S:=S++[.lst []])
  (λi z y=> ∃x5 x6 a ts,z=P7 (.int c) (.int 4) (.int a) (.int (1+n % 4)) ↑5 x5 x6/\y=S++[.lst (ts.map tbl)]/\ts.length=i/\ ∀p∈ts,1<=p.1/\p.1<=4/\0<=p.2/\p.2<=p.1) (λi d hi z N ⟨x5,x6,a,ts,f,t,s,v⟩=>by
   subst f t;have G:i<5:=by have:=(gS.mp hi).1;omega
   obtain⟨p,j,r,J⟩:=Ow (c:=.int c) (m:=.int 4) (k:=.int (1+n % 4)) (n:=a) (l:=↑5) (x5:=some d) (x6:=x6) (S:=S++[.lst (ts.map tbl)]) (ts:=ts) (by simp) (by lia);refine⟨P7 (.int c) (.int 4) (.int j) (.int (1+n % 4)) ↑5 (some d) #[p.1,0],S++[.lst ((ts++[p]).map tbl)],?_,xZ _,some d,#[p.1,0],j,ts++[p],rfl,rfl,by rw[lA,s];rfl,?_⟩
   .rw[show xY 5 d _ (S++[.lst (ts.map tbl)])=.ok (P7 (.int c) (.int 4) (.int a) (.int (1+n % 4)) ↑5 (some d) x6) (S++[.lst (ts.map tbl)])from rfl,cW,J];rw[show(S++[MO.lst (ts.map tbl)]).set ↑5 (.lst ((ts++[p]).map tbl))=S++[.lst ((ts++[p]).map tbl)] by simp]
   .intro q o;rw[ê,mS0]at o;rcases o with o|rfl
    .exact v q o
    .exact r) ⟨none,none,n / 4,[],rfl,rfl,rfl,λp r=>by simp at r⟩
 subst f u;rw[h]at s;have B:mB (P7 (.int c) (.int 4) (.int (n / 4)) (.int (1+n % 4)) ↑5 none none) (S++[.lst []])=.ok (.next (P7 (.int c) (.int 4) (.int a) (.int (1+n % 4)) ↑5 x5 x6)) (S++[.lst (ts.map tbl)]):=by unfold mB;exists 7,lG (S:=S++[.lst []]) (show -(2 ^ 62)<=1+n % 4/\1+n % 4<2 ^ 62 by omega),e
 have E:mE (P7 (.int c) (.int 4) (.int a) (.int (1+n % 4)) ↑5 x5 x6) (S++[.lst (ts.map tbl)])=.ok (.ret #[ts.map tbl,6]) (S++[.lst (ts.map tbl)]):=by unfold mE;exists 7,EU (S:=S++[.lst (ts.map tbl)]) (l:=↑5) (ds:=ts.map tbl) (by simp)
 refine⟨ts,⟨by lia,by lia,v⟩,nV (T:=[.lst (ts.map tbl)]) rfl ?_ (dU (kN λd D=>?_)) (λl=>by simp)⟩
 .show gO [.int c,.int 4] S=_;unfold gO FX;rw[hs,zD A,zD K,zD C,zD H,zD B,E];rfl
 .obtain⟨p,_,rfl⟩:=mM0.mp D;exact dU (kN λe w=>by simp at w;rcases w with rfl|rfl<;>exact sI _ _)
mutual
def pd:MV->Bool
 |.int _=>true
 |.str _=>true
 |.tup ds=>Kl ds
 |_=>false
def Kl:List MV->Bool
 |[]=>true
 |d::ds=>pd d&&Kl ds
end
mutual
def KM:MV->Nat
 |.tup ds=>PF ds+1
 |_=>0
def PF:List MV->Nat
 |[]=>0
 |d::ds=>max (KM d) (PF ds)
end
def eE(ds):pd (.tup ds)=Kl ds:=by rw[pd]
def VX:Kl []=true:=by rw[Kl]
def wK(d)(ds):Kl (d::ds)=(pd d&&Kl ds):=by rw[Kl]
def dO(ds):KM (.tup ds)=PF ds+1:=by rw[KM]
def jX(d)(ds):PF (d::ds)=max (KM d) (PF ds):=by rw[PF]
def PH:PF []=0:=by rw[PF]
def Df(i):pd (.str i)=true:=by rw[pd]
def Gc(i):KM (.int i)=0:=by simp[KM]
def EV(i):KM (.str i)=0:=by simp[KM]
theorem EW: ∀{ds},(∀d∈ds,pd d=true)->Kl ds=true
 |[],_=>VX
 |d::ds,h=>by rw[wK,h d mF0,EW λe a=>h e (mO _ a)];rfl
theorem NA: ∀{ds},Kl ds=true-> ∀d∈ds,pd d=true
 |[],_,d,h=>by simp at h
 |e::ds,hp,d,h=>by
  rw[wK,aE]at hp;rcases mC.mp h with rfl|h
  .exact hp.1
  .exact NA hp.2 d h
theorem NB: ∀{ds}{n},(∀d∈ds,KM d<=n)->PF ds<=n
 |[],n,_=>by rw[PH];exact zero_le _
 |d::ds,n,h=>by
  rw[jX];have b:=h d mF0;have f:=NB λe a=>h e (mO _ a)
  lia
theorem DO: ∀{ds}, ∀d∈ds,KM d<=PF ds
 |[],d,h=>by simp at h
 |e::ds,d,h=>by
  rcases mC.mp h with rfl|h
  .exact Nat.le_max_left _ _
  .exact ç (DO d h) (Nat.le_max_right _ _)
def PJ(h:pd d=true):(∃i,d=.int i)\/(∃x,d=.str x)\/ ∃a,d=.tup a/\Kl a=true:=by
 cases d with
 |int i=>exact .inl ⟨i,rfl⟩
 |str x=>exact .inr (.inl ⟨x,rfl⟩)
 |tup a=>exact .inr (.inr ⟨a,rfl,by rw[<-eE];exact h⟩)
 |_=>rw[pd]at h<;>first |cases h|(intros;simp)
def dec_is[Decidable p][Decidable q](h:p↔q):decide p=decide q:=by
 by_cases a:q
 .rw[dT0 a,dT0 (h.mpr a)]
 .rw[dF0 a,dF0 λz=>a (h.mp z)]
theorem ZT: ∀{ds es},(∀d∈ds, ∀f∈es,e d f=some (decide (d=f)))-> ∃bs,IX e ds es=some bs/\(bs.all id&&ds.length==es.length)=decide (ds=es)
 |[],[],_=>⟨[],rfl,by simp⟩
 |[],_::_,_=>⟨[],rfl,by simp⟩
 |_::_,[],_=>⟨[],rfl,by simp⟩
 |d::ds,f::es,h=>by
  obtain⟨bs,j,k⟩:=ZT λa n b m=>h a (mO _ n) b (mO _ m);refine⟨decide (d=f)::bs,?_,?_⟩
  .unfold IX;rw[h d mF0 f mF0,j];rfl
  .by_cases i:d=f
   .subst i;rw[Ě,dT0 rfl];simp only[id,ģ,lC0];rw[show(ds.length+1==es.length+1)=(ds.length==es.length) by simp,k];exact dec_is (by simp)
   .rw[dF0 i];rw[dF0 (λz=>i (List.cons.inj z).1)];rfl
theorem ZU: ∀ n {d e},pd d=true->pd e=true->KM d<n->eqv S n d e=some (decide (d=e))
 |0,d,e,_,_,h=>by lia
 |n+1,d,e,hd,he,h=>by
  rcases PJ hd with⟨i,rfl⟩|⟨x,rfl⟩|⟨ds,rfl,pds⟩<;>rcases PJ he with⟨j,rfl⟩|⟨y,rfl⟩|⟨es,rfl,pes⟩
  .rw[MX];exact congrArg some (dec_is (by simp))
  .rw[Nc,dF0 (by simp)]
  .rw[dF0 (by simp)];rfl
  .rw[Nd,dF0 (by simp)]
  .rw[nW];exact congrArg some (dec_is (by simp))
  .rw[dF0 (by simp)];rfl
  .rw[dF0 (by simp)];rfl
  .rw[dF0 (by simp)];rfl
  .rw[dO]at h;obtain⟨bs,k,m⟩:=ZT λa f b o=>ZU n (NA pds a f) (NA pes b o) (by have:=DO a f;lia);show((IX _ ds es).map λbs=>bs.all id&&ds.length==es.length)=_;rw[k];show some (bs.all id&&ds.length==es.length)=_;rw[m];exact congrArg some (dec_is (by simp))
theorem ZV(e:pd d=true): ∀{a},(∀y∈a,pd y=true/\KM y<40)->ME S zR d a=some (a.map λy=>decide (y=d))
 |[],_=>rfl
 |y::a,h=>by have b:=h y mF0;unfold ME;rw[ZU zR b.1 e (by unfold zR;exact b.2),ZV e λz f=>h z (mO _ f)];rfl
theorem le_int(i j)(S):QM #[i,5] #[j,5] S=.ok (.val (.bl (decide (i<=j)))) S:=rfl
theorem le_str(i j)(S):QM (.val (.str i)) (.val (.str j)) S=.ok (.val (.bl (!decide (j<i)))) S:=rfl
theorem E9(i)(S):bF [#[i,5],.val (.typ "int")] S=.ok (.val (.bl true)) S:=rfl
theorem F1(i)(S):bF [#[i,5],.val (.typ "bool")] S=.ok (.val (.bl false)) S:=rfl
def xL(d:rs.length=n)(a:F (yB rs S).1 (yB rs S).2=.ok (.val (.bl b)) S):yC n F rs S=.ok (.val (.bl b)) S:=eZ d a (LL _ _) (λl=>by simp)
def DP(i)(S):yC 1 bI [#[i,5]] S=.ok (.val (.bl true)) S:=xL rfl (by show xF _=_;rfl)
def ZW(i)(S):yC 1 bI [.val (.str i)] S=.ok (.val (.bl false)) S:=xL rfl (by show xF _=_;rfl)
def Ox: ∀{n}{S},QU [.new (List.replicate n (.bl true))] S=.ok (.val (.bl true)) S:=by
 intro n S
 have h: ∀n:Nat,iC (List.replicate n (.bl true))=some (List.replicate n true):=by
  intro n
  induction n with
  |zero=>rfl
  |succ n ih=>rw[ě];unfold iC;rw[ih];rfl
 show(match (some _).bind iC with |some bs=>R.ok _ S|none=>.no)=_;rw[show(some _).bind iC=some _ from h n];show R.ok _ S=_;rw[show(List.replicate n true).all id=true by simp]
def Oy{ds:R0}:ds.map (λ_=>MV.bl true)=List.replicate ds.length (.bl true):=by
 induction ds with
 |nil=>rfl
 |cons d ds ih=>rw[è,lC0,ě,ih]
def Vd(ds)(a b)(S):yC 3 bK [#[ds,6],#[a,5],#[b,5]] S=.ok (.val (.bl (decide (a<=ds.length)&&decide ( ds.length <=b)))) S:=xL rfl (by show xF (GO [some _,some _,some _] S)=_;unfold GO IH;simp? [gY,JG,le_int];cases decide (a<=_)<;>rfl)
def Ve(i b)(S):yC 2 kW [#[i,5],#[b,5]] S=.ok (.val (.bl (decide (0<=i)&&decide (i<b)))) S:=xL rfl (by show xF (kU [some _,some _] S)=_;unfold kU cL;simp? [DP,JG,le_int];cases decide (0<=i)<;>rfl)
def SqM(S:Sto)(m:MV)(ds:R0):Prop:=m=.tup ds\/ ∃l,m=.loc l/\S[l]? =#[ds,2]
def SqM.len(h:SqM S m ds):kS [.val m] S=.ok #[ds.length,5] S:=by
 rcases h with rfl|⟨l,rfl,hS⟩
 .rfl
 .exact vL hS
def SqM.app(h:SqM S m ds):SqM (S++T) m ds:=by
 rcases h with h|⟨l,h,hS⟩
 .exact .inl h
 .exact .inr ⟨l,h,by rw[á (gS.mp hS).1];exact hS⟩
def SqM.lo(h:SqM S m ds)(a: ∀d∈ds,lo ↑5 d):lo ↑5 m:=by
 rcases h with rfl|⟨l,rfl,hS⟩
 .exact dU (kN a)
 .exact A6 (gS.mp hS).1
section
def SqM.tuple(h:SqM S m ds):hW [.val m] S=.ok #[ds,6] S:=by
 rcases h with rfl|⟨l,rfl,hS⟩
 .rfl
 .exact EU hS
end
def DQ(b:rs.length=n)(d:yB rs S=(as,S2))(e:F as S2=.ok r (S++T))(f:r=.new ds\/ ∃l,r=#[l,1]/\↑5<=l/\(S++T)[l]? =#[ds,2])(h:MD ↑5 ds):yC n F rs S=.ok (.new ds) S:=by
 have a:F (yB rs S).1 (yB rs S).2=.ok r (S++T):=by rw[d];exact e
 rcases f with rfl|⟨l,rfl,h1,h2⟩
 .exact YW b a h
 .exact Nb b a h1 h2 h
theorem Vf(neg)(p)(l)(S):JQ neg p #[l,1] S=CA neg p #[l,1] S:=by
 unfold JQ;split
 .rename_i h;cases h
 .rfl
def Vg(neg)(i:S[l]? =#[ys,2])(b:pd d=true)(h: ∀y∈ys,pd y=true/\KM y<40):JQ neg (.val d) #[l,1] S=.ok (.val (.bl (if neg=true then !decide (d∈ys)else decide (d∈ys)))) S:=by
 have e:itemsOf S #[l,1]=some ys:=by unfold itemsOf;exact kC i
 rw[Vf];unfold CA;rw[e];dsimp only;rw[ZV b h];dsimp only
 have f:(ys.map λy=>decide (y=d)).any id=decide (d∈ys):=by
  rw[List.any_map];by_cases a:d∈ys
  .rw[dT0 a,List.any_eq_true];exact⟨d,a,by simp⟩
  .rw[dF0 a];rw[List.any_eq_false];intro y j;simp only[Function.comp,id,ċ];rintro rfl;exact a j
 rw[f]
theorem gt_int(i j)(S):Sy #[i,5] #[j,5] S=.ok (.val (.bl (decide (j<i)))) S:=rfl
noncomputable abbrev DR:List Nat:=[118,97,114]
noncomputable abbrev IS:List Nat:=[105,115]
def GQ(d:MV):Prop:=(∃x,Nm x/\d=.tup [.str DR,.str x])\/ ∃v,Vl v/\d=.tup [.str IS,v]
def DS(ts:Tk)(a:MV):Prop:= ∃(t:Int)(tms:R0)(p:Int×Int),a=.tup [.int t,.tup tms]/\0<=t/\t<ts.length/\iU (ts.map tbl) t=some (tbl p)/\(tms.length:Int)=p.1/\1<=p.1/\p.1<=4/\ ∀d∈tms,GQ d
mutual
theorem Oz{n:Nat}: ∀{d:MV},pd d=true->lo n d
 |.int i,_=>sI n i
 |.str x,_=>dS n x
 |.tup ds,h=>dU (Pa (by rw[eE]at h;exact h))
 |.non,_=>JS n
 |.bl b,_=>LL n b
 |.scr ds,h=>by unfold pd at h;cases h
 |.loc l,h=>by unfold pd at h;cases h
 |.typ t,h=>by unfold pd at h;cases h
theorem Pa{n:Nat}: ∀{ds:R0},Kl ds=true->MD n ds
 |[],_=>kN λd a=>by simp at a
 |d::ds,h=>by rw[wK,aE]at h;unfold MD;exact⟨Oz h.1,Pa h.2⟩
end
def Gd(h:GQ d):pd d=true/\KM d<=1:=by
 rcases h with⟨x,_,rfl⟩|⟨v,hv,rfl⟩
 .exact⟨by rw[eE,wK,wK];rfl,by rw[dO,jX,jX,EV,EV];decide⟩
 .rcases hv.cases with⟨i,rfl,_⟩|⟨x,rfl,_⟩
  .exact⟨by rw[eE,wK,wK];rfl,by rw[dO,jX,jX,Gc];decide⟩
  .exact⟨by rw[eE,wK,wK];rfl,by rw[dO,jX,jX,EV,EV];decide⟩
theorem Ge(h:DS ts a):pd a=true/\KM a<=3:=by
 obtain⟨t,i,p,rfl,_,_,_,_,_,_,e⟩:=h;have f:=EW λd b=>(Gd (e d b)).1;have j:=NB λd b=>(Gd (e d b)).2;refine⟨by rw[eE,wK,wK,eE,f];rfl,?_⟩;rw[dO,jX,jX,PH,Gc,dO]
 lia
def vn:MV->Option (List Nat)
 |.tup [.str w,.str x]=>if w=DR then some x else none
 |_=>none
noncomputable def LW:MV->List MV
 |.tup [_,.tup tms]=>tms
 |_=>[]
def rB(as:R0):List (List Nat):=as.flatMap λa=>(LW a).filterMap vn
def Pb(x):vn (.tup [.str DR,.str x])=some x:=by simp[vn]
def Xj(S):pB (.val (.str DR)) (.val (.str DR)) S=.ok (.val (.bl true)) S:=by rw[eq_str,dT0 rfl]
def Xk(S):pB (.val (.str IS)) (.val (.str DR)) S=.ok (.val (.bl false)) S:=by rw[eq_str,dF0 ↑4]
def yP(S)(o:MO):(S++[o])[↑5]? =some o:=by simp
def IL(S)(o a:MO):(S++[o]).set ↑5 a=S++[a]:=by simp
def Gf{fs:Ch}: ∀y∈fs.map MV.str,pd y=true/\KM y<40:=λd a=>by obtain⟨u,_,rfl⟩:=mM0.mp a;exact⟨Df u,by rw[EV];decide⟩
theorem ZX(a b)(S):gL #[[a,b],6] #[0,5] S=.ok (.val a) S:=rfl
theorem VY(a b)(S):gL #[[a,b],6] #[1,5] S=.ok (.val b) S:=rfl
theorem Vh(h:SqM S m ds):ZA [.val m,#[[.typ "list",.typ "tuple"],6]] S=.ok (.val (.bl true)) S:=by
 rcases h with rfl|⟨l,rfl,hS⟩
 .rfl
 .have e:pK S #[l,1]=some "list":=by show(cJ S _).map (λ_=>"list")=_;rw[kC hS];rfl
  unfold ZA;dsimp only;rw[e];rfl
def ZY(h:SqM S m ds):yC 1 CY [.val m] S=.ok (.val (.bl true)) S:=xL rfl (by show xF (PC [some m] S)=_;unfold PC PB;simp? [Vh h];rfl)
def SqM.itQ(h:SqM S m ds): ∃a,(∀T,stay a (S++T))/\ ∀T,itQ (.val m) (S++T)=.ok ⟨ds,a⟩ (S++T):=by
 rcases h with rfl|⟨l,rfl,hS⟩
 .exact⟨[],λT=>xZ _,λT=>rfl⟩
 .have b: ∀T,(S++T)[l]? =some _:=λT=>by rw[á (gS.mp hS).1];exact hS
  refine⟨[_],λT=>bH (b T),λT=>?_⟩;have e:srcOf (S++T) #[l,1]=some ⟨true,ds,[(l,ds)]⟩:=by unfold srcOf;dsimp only;rw[b T]
  unfold L2.M.itQ;rw[e]
def Pc(h:(look kvs k).isSome=true):k∈kvs.map (·.1):=by unfold look at h;rw[Option.isSome_map]at h;obtain⟨p,a⟩:=č.mp h;have b:=List.find?_some a;exact mM0.mpr ⟨p,List.mem_of_find?_eq_some a,ñ b⟩
def Ju(a:kvs.all (λp=>lH p.1)=true)(b:kvs.length<1000000):ZF #[↑5,1] (.val (.str x)) d ρ (S++[.dic kvs])=.ok ρ (S++[.dic (putK kvs (.str x) d)]):=by
 have e:LM (S++[.dic kvs]) #[↑5,1]=some (↑5,kvs):=by unfold LM;dsimp only;rw[yP];dsimp only;rw[iP a]
 unfold ZF;rw[e];dsimp only;rw[iP b,IL]
noncomputable abbrev D4(m:MV)(n:Nat)(a t:T0):Rho:=[some m,#[n],a,t]
theorem strs_map: ∀ hs ,strsOf (hs.map MV.str)=some hs
 |[]=>rfl
 |h::hs=>by show(strsOf _).map _=_;rw[strs_map hs];rfl
section
def SqM.itE(h:SqM S m ds): ∃a,stay a S/\itE [.val m] S=.ok ⟨Ng ds,a⟩ S:=by
 rcases h with rfl|⟨l,rfl,hS⟩
 .exact⟨[],xZ _,rfl⟩
 .refine⟨[_],bH hS,?_⟩;have e:srcOf S #[l,1]=some ⟨true,ds,[(l,ds)]⟩:=by unfold srcOf;dsimp only;rw[hS]
  unfold L2.M.itE;dsimp only;rw[e]
noncomputable abbrev Q5(tt hm am:MV)(p a:T0):Rho:=[some tt,some hm,some am,p,a]
end
theorem Vi(i)(S):JP #[i,5] (.val .non) S=.ok (.val (.bl false)) S:=rfl
theorem Vj(i)(S):JP (.val (.str i)) (.val .non) S=.ok (.val (.bl false)) S:=rfl
theorem ZZ(i)(S):JP #[i,6] (.val .non) S=.ok (.val (.bl false)) S:=rfl
theorem F2(i)(S):bF [#[i,6],.val (.typ "str")] S=.ok (.val (.bl false)) S:=rfl
theorem F3(i)(S):bF [#[i,6],.val (.typ "int")] S=.ok (.val (.bl false)) S:=rfl
theorem F4(i)(S):bF [#[i,6],.val (.typ "list")] S=.ok (.val (.bl false)) S:=rfl
theorem PK(ds):pairs ds ds=ds.map λd=>.tup [d,d]:=by
 induction ds with
 |nil=>rfl
 |cons d ds ih=>show MV.tup [d,d]::pairs ds ds=_;rw[ih];rfl
mutual
def sm:MV->Bool
 |.tup ds=>decide (ds.length<1000)&&Vk ds
 |_=>true
def Vk:List MV->Bool
 |[]=>true
 |d::ds=>sm d&&Vk ds
end
def KN(ds):sm (.tup ds)=(decide (ds.length<1000)&&Vk ds):=by rw[sm]
def Aa(d)(ds):Vk (d::ds)=(sm d&&Vk ds):=by rw[Vk]
theorem Gg: ∀{ds},Vk ds=true-> ∀d∈ds,sm d=true
 |[],_,d,h=>by simp at h
 |e::ds,hp,d,h=>by
  rw[Aa,aE]at hp;rcases mC.mp h with rfl|h
  .exact hp.1
  .exact Gg hp.2 d h
theorem EX: ∀{ds},(∀d∈ds,sm d=true)->Vk ds=true
 |[],_=>by rw[Vk]
 |d::ds,h=>by rw[Aa,h d mF0,EX λe a=>h e (mO _ a)];rfl
theorem Ab: ∀ n {d} S ,pd d=true->sm d=true->KM d<n->yC 2 (xW n) [.val d,.val d] S=.ok (.val (.bl true)) S
 |0,d,S,_,_,h=>by lia
 |n+1,d,S,hp,hsm,h=>xL rfl (by
  show xF (vW (xW n) [some d,some d] S)=_;unfold vW;rcases PJ hp with⟨i,rfl⟩|⟨x,rfl⟩|⟨ds,rfl,pds⟩
  .rw[zD (by unfold aK;simp? [Vi];rfl)];rw[zD (by unfold aL;simp? [cW];rfl)];rw[yL (by unfold pP;simp? [E9,F1,QR];first |rfl|simp[cW])];rfl
  .rw[zD (by unfold aK;simp? [Vj];rfl)];rw[yL (by unfold aL;simp? [QR,eq_str];first |rfl|simp[cW])];rfl
  .rw[dO]at h;rw[KN,aE,ċ]at hsm;have a:ds.length<1000000:=by omega
   have j:xV (MU 2 (yR (xY 0) (yR (xY 1) nB))) (uU (xW n)) (fF (xW n)) [none,none] [] (pairs ds ds) S=.ok ((pairs ds ds).map λ_=>.bl true) S:=uS (xZ S) λe f=>by rw[PK]at f;obtain⟨x,b,rfl⟩:=mM0.mp f;refine⟨[some x,some x],rfl,rfl,?_⟩;unfold fF;exists 7,Ab n S (NA pds x b) (Gg hsm.2 x b) (by have:=DO x b;omega)
   rw[zD (by unfold aK;simp? [ZZ];rfl)];rw[zD (by unfold aL;simp? [F2];rfl)];rw[zD (by unfold pP;simp? [F3];rfl)];rw[zD (by unfold DA;simp? [F4];rfl)];rw[zD (by unfold DB;simp? [cW];rfl)];unfold DC;simp? [gY,QR,show zAH [#[ds,6],#[ds,6]] S=.ok ⟨pairs ds ds,[]⟩ S from rfl];rw[iP (show(pairs ds ds).length<1000000 by rw[PK,lM0];exact a)];rw[show vD 2 [] [#[ds,3],#[ds,3]]=[none,none]from rfl,j,Oy];simp[cW,Ox];rfl)
noncomputable def Dg(x:Db):Bool:=x.all λc=>decide (97<=c/\c<=122)
noncomputable def GR(x:Db):Bool:=x.all λc=>decide (48<=c/\c<=57)
def Jv(c)(t:List α):iU (c::t) 0=some c:=by unfold iU QK;simp
def F5(a b:Nat):([a]<[b])↔a<b:=by rw[List.cons_lt_cons_iff];simp
theorem F6(a b:Nat):(!decide ([b]<[a]))=decide (a<=b):=by
 rw[Ĕ.mpr (F5 b a)];by_cases h:a<=b
 .rw[dT0 h,dF0 (by lia)];rfl
 .rw[dF0 h,dT0 (by lia)];rfl
theorem Gh{α:Type}(f): ∀l:List α,iC (l.map λc=>.bl (f c))=some (l.map f)
 |[]=>rfl
 |c::l=>by rw[è];unfold iC;rw[Gh f l];rfl
theorem all_map{α:Type}(f)(l:List α)(S):QU [.new (l.map λc=>.bl (f c))] S=.ok (.val (.bl (l.all f))) S:=by show(match (some _).bind iC with |some bs=>R.ok _ S|none=>.no)=_;rw[show(some _).bind iC=some _ from Gh f l];show R.ok _ S=_;rw[List.all_map];rfl
theorem len_str(h:x.length<=100000)(S):kS [.val (.str x)] S=.ok #[x.length,5] S:=iP (fits (by lia))
theorem VZ(x)(S):Zs (.val (.str x)) S=.ok ⟨x.map λc=>.str [c],[]⟩ S:=rfl
noncomputable def sOne(f:Nat->Bool):MV->MV
 |.str [c]=>.bl (f c)
 |_=>.non
theorem PL(f:Nat->Bool)(x:Db)(h: ∀c, ∃a,gf (.str [c]) ρb S=.ok a S/\cf a S=.ok true S/\ef a S=.ok (.val (.bl (f c))) S):
  xV gf cf ef ρb [] (x.map λc=>.str [c]) S=.ok (x.map λc=>.bl (f c)) S:=by
 rw[uS (F:=sOne f) (xZ S) λd b=>by obtain⟨c,_,rfl⟩:=mM0.mp b;exact h c];rw[Ē];rfl
def gZ(x:Db):Bool:=(decide (1<=(x.length:Int))&&decide ((x.length:Int)<=8))&&Dg x
theorem Ac(x)(h:x.length<=100000)(S):yC 1 kP [.val (.str x)] S=.ok (.val (.bl (gZ x))) S:=eZ rfl (by
 show xF (KA [some _] S)=_;have a:CP [#[x,4]] S=if(decide (1<=(x.length:Int))&&decide ((x.length:Int)<=8))=true then .ok (.next [#[x,4]]) S else .ok (.ret (.val (.bl false))) S:=by unfold CP;simp? [len_str h,JG,le_int];cases decide (1<=(x.length:Int))<;>cases decide ((x.length:Int)<=8)<;>rfl
 have d:=PL (gf:=xY 0) (cf:=FN) (ef:=sN) (ρb:=vD 1 [] [#[x,4]]) (S:=S) (λc=>decide (97<=c/\c<=122)) x λc=>⟨[some _],rfl,rfl,by unfold sN;simp? [JG,le_str,F6];rw[decide_and];cases decide (97<=c)<;>cases decide (c<=122)<;>rfl⟩
 have b:CQ [#[x,4]] S=.ok (.ret (.val (.bl (Dg x)))) S:=by unfold CQ;simp? [VZ];rw[iP (by rw[lM0];lia),d];simp? [all_map];rfl
 unfold KA gZ
 cases z:(decide (1<=(x.length:Int))&&decide ((x.length:Int)<=8))with
 |true=>rw[z,iP rfl]at a;rw[zD a,b];rfl
 |false=>rw[z,iN0 xF0]at a;rw[yL a];rfl) (LL _ _) (by intro l z;cases z)
noncomputable def bare(x:Db):List Nat:=match x with
 |45::r=>r
 |_=>x
def Ad(x):(bare x).length<=x.length:=by
 unfold bare;split
 .simp
 .exact à _
def Y1(c)(r:Db):cU (c::r) (some 1) none=r:=by unfold cU;simp[HT.sIx]
def nL(x:Db):Bool:=(decide (1<=((bare x).length:Int))&&decide (((bare x).length:Int)<=30))&&(GR (bare x)&&(decide (x=[48]) || !decide ((bare x).take 1=[48])))
theorem Pd(c)(S):JQ false (.val (.str [c])) (.val (.str [48,49,50,51,52,53,54,55,56,57])) S=.ok (.val (.bl (decide (48<=c/\c<=57)))) S:=by show R.ok (Er.val (.bl (decide _))) S=_;rw[show decide _=decide (48<=c/\c<=57)from Ĕ.mpr (by rw[show [48,49,50,51,52,53,54,55,56,57]=List.range' 48 10 from rfl,List.mem_range'_1];lia)]
theorem Gi(x)(h:x.length<=100000)(S):yC 1 kQ [.val (.str x)] S=.ok (.val (.bl (nL x))) S:=eZ rfl (by
 show xF (lO [#[x,4],none] S)=_;have j:=Ad x
 have i:aC [#[x,4],none] S=.ok (.next [#[x,4],#[bare x,4]]) S:=by
  unfold aC;simp? [show∀S,jE (.val (.str x)) S=true from λ_=>rfl,show∀S,Xc (.val (.str x)) [.val (.str [45])] S=.ok _ S from λ_=>rfl,cut_str (fits (show x.length<=1000000 by lia))]
  match x with
  |[]=>rfl
  |c::r=>
   by_cases a:c=45
   .subst a;rw[iP (by simp),Y1];rfl
   .rw[iN0 (by simp[a])];unfold bare;split
    .rename_i z;cases z;exact absurd rfl a
    .rfl
 have b:aD [#[x,4],#[bare x,4]] S=if(decide (1<=((bare x).length:Int))&&decide (((bare x).length:Int)<=30))=true then .ok (.next [#[x,4],#[bare x,4]]) S else .ok (.ret (.val (.bl false))) S:=by unfold aD;simp? [len_str (show(bare x).length<=100000 by lia),JG,le_int];cases decide (1<=((bare x).length:Int))<;>cases decide (((bare x).length:Int)<=30)<;>rfl
 have a:=PL (gf:=xY 0) (cf:=oG) (ef:=cN) (ρb:=vD 1 [] [#[x,4],#[bare x,4]]) (S:=S) (λc=>decide (48<=c/\c<=57)) (bare x) λc=>⟨[#[[c],4]],rfl,rfl,by unfold cN;exists 7,Pd⟩
 have d:aF [#[x,4],#[bare x,4]] S=if GR (bare x)=true then .ok (.next [#[x,4],#[bare x,4]]) S else .ok (.ret (.val (.bl false))) S:=by unfold aF;simp? [VZ];rw[iP (by rw[lM0];lia),a];simp? [all_map];show(if(!GR (bare x))=true then _ else _)=_;cases GR (bare x)<;>rfl
 have k:1<=(bare x).length->aG [#[x,4],#[bare x,4]] S=.ok (.ret (.val (.bl (decide (x=[48]) || !decide ((bare x).take 1=[48]))))) S:=by
  intro m;unfold aG;simp? [eq_str]
  match hz:bare x,m with
  |c::t,_=>
   rw[hz]at j;have hi: ∀S,gL (.val (.str (c::t))) #[0,5] S=.ok (.val (.str [c])) S:=λS=>ix_str (fits (by lia)) (Jv c t);simp? [orF,hi,OS (nW _ [c] [48])];cases decide (x=[48])<;>rfl
 unfold lO nL;rw[zD i]
 cases e:(decide (1<=((bare x).length:Int))&&decide (((bare x).length:Int)<=30))with
 |false=>rw[e,iN0 xF0]at b;rw[yL b];rfl
 |true=>
  rw[e,iP rfl]at b;rw[zD b]
  cases f:GR (bare x)with
  |false=>rw[f,iN0 xF0]at d;rw[yL d];rfl
  |true=>
   rw[f,iP rfl]at d;rw[zD d,k (by rw[aE,ċ]at e;lia)];rfl) (LL _ _) (by intro l z;cases z)
noncomputable def valOf(x:Db):Int:=match x with
 |45::r=> -((PySem.NumText.digitsVal r:Nat):Int)
 |_=>((PySem.NumText.digitsVal x:Nat):Int)
def Pe(x):(∃r,x=45::r)\/ ∀r,x≠45::r:=by
 by_cases h: ∃r,x=45::r
 .exact .inl h
 .exact .inr λr e=>h ⟨r,e⟩
theorem EY(h: ∀r,x≠45::r):bare x=x:=by
 unfold bare;split
 .exact absurd rfl (h _)
 .rfl
theorem Pf(h: ∀r,x≠45::r):valOf x=((PySem.NumText.digitsVal x:Nat)):=by
 unfold valOf;split
 .exact absurd rfl (h _)
 .rfl
def Gj(h:GR x=true):PySem.NumText.AllDigits x:=λc a=>ñ (ì.mp h c a)
theorem Y2(h:nL x=true)(e:x.length<=100)(S):GE [.val (.str x)] S=.ok #[valOf x,5] S:=by
 unfold nL at h;rw[aE,aE,aE]at h;obtain⟨⟨a,_⟩,b,_⟩:=h;have hs:(yZ x).length<=4300:=by rw[wD];lia
 have d:PySem.intText? (yZ x)=some (valOf x):=by
  rcases Pe x with⟨r,rfl⟩|hx
  .exact PySem.intText_neg (vH _) (Gj b) (by rintro rfl;simp[bare]at a) hs
  .rw[EY hx]at a b;have:=PySem.intText_digits (by rw[vH];exact Gj b) (by rw[vH];rintro rfl;simp at a) hs;rw[Pf hx];exact this
 show(match PySem.intText? _ with |some n=>if x.length<=640 then R.ok _ S else .no|none=>.no)=_;rw[d];exact iP (by lia)
def RA: ∀d:Nat,d<10->(Nat.digitChar d).toNat=48+d:=by decide
def IM(h:m<10):FF m=[48+m]:=by unfold FF;rw[Nat.toDigits_of_lt_base h];show [(Nat.digitChar m).toNat]=_;rw[RA m h]
theorem TQ(h: ¬m<10):FF m=FF (m / 10)++[48+m % 10]:=by have a:m % 10<10:=mod_lt m ↑4;have t:Nat.toDigits 10 (m / 10)++Nat.toDigits 10 _=Nat.toDigits 10 _:=Nat.toDigits_append_toDigits ↑4 (by lia) a;rw[Nat.div_add_mod]at t;have e:=IM a;unfold FF at e ⊢;rw[<-t,ï,e]
theorem Ae(cs)(c):PySem.NumText.digitsVal (cs++[c])=PySem.NumText.digitsVal cs * 10+(c - 48):=by unfold PySem.NumText.digitsVal;rw[List.foldl_append];rfl
theorem Dh(m):(∀c∈FF m,48<=c/\c<=57)/\PySem.NumText.digitsVal (FF m)=m/\ ∃c r,FF m=c::r/\(m≠0->c≠48):=by
 induction m using Nat.strongRecOn with
 |ind m ih=>
  by_cases h:m<10
  .rw[IM h];refine⟨λc a=>by rw[mS0.mp a];lia,?_,48+m,[],rfl,λz=>by lia⟩;show 0 * 10+_=m
   lia
  .obtain⟨b,f,c,r,d,e⟩:=ih (m / 10) (by lia);rw[TQ h];refine⟨λc a=>?_,?_,c,r++[48+m % 10],by rw[d];rfl,λ_=>e (by lia)⟩
   .rcases ê.mp a with z|z
    .exact b c z
    .rw[mS0.mp z];lia
   .rw[Ae];lia
theorem Af: ∀ k m ,m<10 ^ (k+1)->(FF m).length<=k+1
 |0,m,h=>by rw[IM (by lia)];exact à _
 |k+1,m,h=>by
  by_cases a:m<10
  .rw[IM a];simp
  .rw[TQ a,lA,lS];have:=Af k (m / 10) (by rw[Nat.pow_succ]at h;lia)
   lia
def Vm(b: -(10 ^ 30)<i)(a:i<10 ^ 30):i.natAbs<10 ^ 30:=by
 have e:((10 ^ 30:Nat):Int)=(10:Int) ^ 30:=by decide+kernel
 omega
theorem KO(h:i.natAbs<10 ^ 30):(∀c∈iD i,c=45\/48<=c/\c<=57)/\(iD i).length<=31/\bare (iD i)=FF i.natAbs/\valOf (iD i)=i/\(iD i=[48]\/i≠0)/\iD i≠[]:=by
 obtain⟨a,f,c,r,j,k⟩:=Dh i.natAbs;have m:=Af 29 i.natAbs h;by_cases hi:i<0
 .have e:iD i=45::FF i.natAbs:=by unfold iD;rw[iP hi]
  rw[e];refine⟨λc b=>?_,by rw[lC0];lia,rfl,?_,.inr (by lia),by simp⟩
  .rcases mC.mp b with z|z
   .exact .inl z
   .exact .inr (a c z)
  .show -_=i;rw[f];lia
 .have e:iD i=FF i.natAbs:=by unfold iD;rw[iN0 hi]
  have d: ∀r,FF i.natAbs≠45::r:=λr z=>by
   have:=a 45 (by rw[z];exact mF0)
   lia
  rw[e];refine⟨λc b=>.inr (a c b),by lia,EY d,by rw[Pf d];lia,?_,by rw[j];simp⟩;by_cases z:i=0
  .subst z;exact .inl (IM ↑4)
  .exact .inr z
def wT:MV->List Nat
 |.int i=>iD i
 |.str x=>x
 |_=>[]
def IO(h:Vl d):(∃i:Int,d=.int i/\i.natAbs<10 ^ 30)\/ ∃x,d=.str x/\Nm x:=by
 rcases h.cases with⟨i,rfl,h1,h2⟩|⟨x,rfl,h1⟩
 .exact .inl ⟨i,rfl,Vm h1 h2⟩
 .exact .inr ⟨x,rfl,h1⟩
def Pg(h:Vl d):(wT d).length<=31:=by
 rcases IO h with⟨i,rfl,h1⟩|⟨x,rfl,h1⟩
 .exact(KO h1).2.1
 .exact ç h1.2.1 ↑4
def Ph(h:Vl d): ∀c∈wT d,c=45\/(48<=c/\c<=57)\/(97<=c/\c<=122):=by
 rcases IO h with⟨i,rfl,h1⟩|⟨x,rfl,h1⟩
 .intro c a;rcases (KO h1).1 c a with z|z
  .exact .inl z
  .exact .inr (.inl z)
 .exact λc a=>.inr (.inr (h1.2.2 c a))
theorem Pi(h:Vl d)(S):YU [.val d] S=.ok (.val (.str (wT d))) S:=by
 rcases IO h with⟨i,rfl,h1⟩|⟨x,rfl,h1⟩
 .refine iP ?_;by_cases z:i.natAbs=0
  .rw[z];decide
  .exact(log2_lt z).mpr (lt_trans h1 (by decide+kernel))
 .rfl
noncomputable def D10:List Nat:=[48,49,50,51,52,53,54,55,56,57]
def tT:MV->List Nat
 |.tup [.str w,v]=>if w=DR then 63::wT v else wT v
 |_=>[]
theorem Pj(x):tT (.tup [.str DR,.str x])=63::x:=by show(if DR=DR then 63::wT _ else wT (.str x))=_;rfl
def Xl(v):tT (.tup [.str IS,v])=wT v:=by show(if IS=DR then 63::wT v else wT v)=_;rw[iN0 ↑4]
theorem F7(h:GQ d):(tT d).length<=32:=by
 rcases h with⟨x,hx,rfl⟩|⟨v,hv,rfl⟩
 .rw[Pj,lC0];have:=hx.2.1;lia
 .rw[Xl];have:=Pg hv;lia
def okS(c:Nat):Prop:=c=45\/c=63\/(48<=c/\c<=57)\/(97<=c/\c<=122)
def Pk(h:GQ d): ∀c∈tT d,okS c:=by
 rcases h with⟨x,hx,rfl⟩|⟨v,hv,rfl⟩
 .intro c a;rcases mC.mp a with z|z
  .exact .inr (.inl z)
  .exact .inr (.inr (.inr (hx.2.2 c z)))
 .intro c a;rcases Ph hv c a with z|z
  .exact .inl z
  .exact .inr (.inr z)
theorem PM: ∀a:List (List Nat),sK (a.map MV.str)=some a
 |[]=>rfl
 |z::a=>by show(sK _).map _=_;rw[PM a];rfl
def WA(b:y.length<=100)(d:zs.length<=1000)(a: ∀z∈zs,z.length<=900)(S):oF (.val (.str y)) [.new (zs.map MV.str)] S=.ok (.val (.str (yX y zs))) S:=by
 show(match some _ with
  |some ds=>match sK ds with
   |some zs=>if y.length<=100/\zs.length<=1000/\ ∀z∈zs,z.length<=900 then R.ok (Er.val (.str (yX y zs))) S else .no
   |none=>.no
  |none=>.no)=_
 dsimp only;rw[PM];exact iP ⟨b,d,a⟩
theorem KP: ∀a:List (List Nat),(∀z∈a,z.length<=B)->(yX y a).length<=a.length * (B+y.length)
 |[],_=>zero_le _
 |[x],h=>by
  have:=h x mF0;show x.length<=1 * _
  lia
 |x::z::r,h=>by
  have d:=h x mF0;have b:=KP (y:=y) _ λw hw=>h w (mO _ hw);show(x++y++yX y _).length<=(r.length+1+1) * _;rw[show(z::r).length=r.length+1 from rfl]at b;rw[lA,lA,Nat.succ_mul _]
  lia
theorem F8(ds)(S):Ki #[ds,6] S=.ok ⟨ds,[]⟩ S:=rfl
def lst1(a)(S):xU [.val a] S=.ok (.new [a]) S:=hX (by simp)
def lst2(a b)(S):xU [.val a,.val b] S=.ok (.new [a,b]) S:=hX (by simp)
theorem cF(x)(S):jE (.val (.str x)) S=true:=rfl
def Pl(h:i.natAbs<10 ^ 30):Vl (.int i):=by
 have e:((10 ^ 30:Nat):Int)=(10:Int) ^ 30:=by decide+kernel
 exact⟨by omega,by omega⟩
noncomputable def lc(b i:Nat):Nat:=if i=0 then b else b+1+i
def F9(h:lc b i=lc b j):i=j:=by unfold lc at h;split at h<;>split at h<;>omega
def Xm(b i):lc b i≠b+1:=by unfold lc;split<;>omega
def Y3(b i):b<=lc b i:=by unfold lc;split<;>omega
def QN(b n:Nat):List MV:=(List.range n).map λi=>.loc (lc b i)
theorem PN(b n):QN b (n+1)=QN b n++[.loc (lc b n)]:=by unfold QN;rw[List.range_succ,ï];rfl
def AA(b n):(QN b n).length=n:=by unfold QN;rw[lM0,ĭ]
structure PtS(B:Sto)(Ps:Y0)(S:Sto):Prop where
 len:↑5=B.length+1+Ps.length
 out:S[B.length+1]? =#[QN B.length Ps.length,2]
 inn: ∀i p,Ps[i]? =some p->S[lc B.length i]? =#[p,2]
 old: ∀l,l<B.length->S[l]? =B[l]?
theorem PtS.app(h:PtS B Ps S): ∃T,S=B++T:=by
 refine⟨S.drop B.length,ext_getElem? λl=>?_⟩;by_cases a:l<B.length
 .rw[á a,h.old l a]
 .rw[â (by lia),List.getElem?_drop,show B.length+_=l by lia]
noncomputable def Gk(s:Db):List (List Nat)->List (List MV)->List MV->List (List MV)
 |[],D,c=>D++[c]
 |x::ps,D,c=>if x=s then Gk s ps (D++[c]) []else Gk s ps D (c++[.str x])
theorem Di(s): ∀ ps  D  c ,1<=(Gk s ps D c).length
 |[],D,c=>by show 1<=(D++[c]).length;rw[lA,lS];lia
 |x::ps,D,c=>by
  unfold Gk;split
  .exact Di s ps _ _
  .exact Di s ps _ _
theorem Gn(xs)(a:MV):iU (xs++[a]) (-1)=some a:=by
 have h:QK (xs++[a]).length (-1)=some xs.length:=by
  unfold QK;rw[lA,lS];simp only[show¬(0:Int)<= -1 by decide,iF]
  first
   |(rw[iP (by lia)];exact congrArg some (by lia))
   |(split<;>first |(exact congrArg some (by lia))|lia)
 unfold iU;rw[h];show _[xs.length]? =some a;rw[â (à _),sub_self];rfl
theorem Gp: ∀{ds},MD n ds-> ∀d∈ds,lo n d
 |[],_,d,h=>by simp at h
 |e::ds,hp,d,h=>by
  rcases mC.mp h with rfl|h
  .exact hp.1
  .exact Gp hp.2 d h
section
theorem Pm(h:PtS B (D++[c]) S):PtS B ((D++[c])++[[]]) ((S++[MO.lst []]).set (B.length+1) (MO.lst (QN B.length (D++[c]).length++[MV.loc ↑5]))):=by
 have k:(D++[c]).length=D.length+1:=by rw[lA];rfl
 have m:=h.len;have f:((D++[c])++[([]:R0)]).length=(D++[c]).length+1:=by rw[lA];rfl
 have e:↑5=lc B.length (D++[c]).length:=by
  unfold lc;rw[iN0 (by lia)]
  lia
 refine⟨?_,?_,λi p hi=>?_,λl j=>?_⟩
 .rw[Ą,lA,lA];show ↑5+1=B.length+1+((D++[c]).length+1)
  lia
 .rw[Ċ (by rw[lA];lia),f,PN,e]
 .rw[Ā (λz=>Xm _ _ z.symm)];by_cases b:i<(D++[c]).length
  .rw[á b]at hi;have:=h.inn i p hi;rw[á (gS.mp this).1];exact this
  .have d:=(gS.mp hi).1;have a:i=(D++[c]).length:=by lia
   rw[a]at hi ⊢;rw[<-e,yP];rw[â (à _),sub_self]at hi;cases hi;rfl
 .rw[Ā (by lia),á (by lia)];exact h.old l j
theorem Pn(h:PtS B (D++[c]) S)(d):PtS B (D++[c++[d]]) (S.set (lc B.length D.length) (.lst (c++[d]))):=by
 have k:(D++[c]).length=D.length+1:=by rw[lA];rfl
 have b:(D++[c++[d]]).length=D.length+1:=by rw[lA];rfl
 have n:=h.len;have o:=Y3 B.length D.length;have j:=h.inn D.length c (by rw[â (à _),sub_self];rfl);refine⟨by rw[Ą,n,k,b],?_,λi p hi=>?_,λl e=>?_⟩
 .rw[Ā (Xm _ _),h.out,k,b]
 .by_cases a:i<D.length
  .rw[á a]at hi;rw[Ā (λz=>by have:=F9 z;lia)];exact h.inn i p (by rw[á a];exact hi)
  .have m:=(gS.mp hi).1;have f:i=D.length:=by lia
   subst f;rw[â (à _),sub_self]at hi;cases hi;exact get_set j
 .rw[Ā (by lia)];exact h.old l e
theorem WB(i:B[q]? =#[L,2]): ∀ ps  D  c  S  x ,PtS B (D++[c]) S->D.length+c.length+ps.length<=10000->
  ∃b f,bA (xY 3) gN [(q,L)] (ps.map MV.str) [#[q],#[s,4],#[B.length+1],x] S=.ok (.next [#[q],#[s,4],#[B.length+1],f]) b/\PtS B (Gk s ps D c) b
 |[],D,c,S,x,h,_=>⟨S,x,rfl,h⟩
 |y::ps,D,c,S,x,h,hz=>by
  have p:(D++[c]).length=D.length+1:=by rw[lA];rfl
  have d:=(gS.mp i).1;rw[lC0]at hz;have g:xY 3 (.str y) [#[q],#[s,4],#[B.length+1],x] S=.ok [#[q],#[s,4],#[B.length+1],#[y,4]] S:=rfl;by_cases j:y=s
  .have a:=Pm h;obtain⟨b,f,m,n⟩:=WB i ps (D++[c]) [] _ #[y,4] a (by rw[p];simp only[ë];lia);refine⟨b,f,?_,by unfold Gk;rw[iP j];exact n⟩;have t:GF #[B.length+1,1] [.new []] S=.ok (.val .non) ((S++[MO.lst []]).set (B.length+1) (MO.lst (QN B.length (D++[c]).length++[MV.loc ↑5]))):=by show QV #[B.length+1,1] (S++[.lst []]) (λr=>if r.length<sizeLine then some _ else none)=_;unfold QV;dsimp only;rw[á (by have:=h.len;lia),h.out];dsimp only;rw[iP (æ (by rw[AA];lia) (fits (à _)))]
   have o:gN [#[q],#[s,4],#[B.length+1],#[y,4]] S=.ok (.next [#[q],#[s,4],#[B.length+1],#[y,4]]) ((S++[MO.lst []]).set (B.length+1) (MO.lst (QN B.length (D++[c]).length++[MV.loc ↑5]))):=by unfold gN lQ;exists 7,eq_str,dT0 j,cE h.out,show xU [] S=.ok (.new []) S from hX (by simp),t
   rw[è,yM g o (bH (by rw[a.old q d];exact i))];exact m
  .have a:=Pn h (.str y);obtain⟨b,f,m,n⟩:=WB i ps D (c++[.str y]) _ #[y,4] a (by rw[lA,lS];lia);refine⟨b,f,?_,by unfold Gk;rw[iN0 j];exact n⟩;have e:=h.inn D.length c (by rw[â (à _),sub_self];rfl);have k:gL _ #[-1,5] S=.ok _ S:=gQ h.out (by rw[p,PN];exact Gn _ _);have o:gN [#[q],#[s,4],#[B.length+1],#[y,4]] S=.ok (.next [#[q],#[s,4],#[B.length+1],#[y,4]]) (S.set (lc B.length D.length) (.lst (c++[.str y]))):=by unfold gN lQ;simp? [eq_str,dF0 j,fT,iF,k,cE e,vZ e (by lia)]
   rw[è,yM g o (bH (by rw[a.old q d];exact i))];exact m
end
theorem Gq(v:rs.length=2)(w:yB rs S=([.loc q,.str s],B))(e:B[q]? =#[ps.map MV.str,2])(A:↑5<=B.length)(m:ps.length<=9000):
  ∃a,yC 2 bN rs S=.ok #[B.length+1,1] a/\PtS B (Gk s ps [] []) a:=by
 have n:PtS B ([]++[[]]) (B++[.lst []]++[.lst [.loc B.length]]):=by
  refine⟨by simp,?_,λi p hi=>?_,λl m=>?_⟩
  .have:=yP (B++[MO.lst []]) (.lst [.loc B.length]);rw[lA]at this;exact this
  .match i,hi with
   |0,hi=>
    cases hi;show _[B.length]? =_;simp
   |i+1,hi=>simp at hi
  .rw[aA,á m]
 obtain⟨a,k,h,j⟩:=WB (s:=s) e ps [] [] _ none n (by simp only[ë];lia);refine⟨a,?_,j⟩
 have r:bN [.loc q,.str s] B=.ok #[B.length+1,1] a:=by
  have hs:zU CI [.loc q,.str s]=[#[q],#[s,4],none,none]:=rfl;have o:sR [#[q],#[s,4],none,none] B=.ok (.next [#[q],#[s,4],#[B.length+1],none]) (B++[.lst []]++[.lst [.loc B.length]]):=by unfold sR;simp? [show xU [] B=.ok (.new []) B from hX (by simp),show xU [.new []] B=.ok _ (B++[.lst []])from hX (by simp)];rw[lA];rfl
  have b:(B++[MO.lst []]++[.lst [.loc B.length]])[q]? =#[ps.map MV.str,2]:=by rw[aA,á (gS.mp e).1];exact e
  have y:sS [#[q],#[s,4],#[B.length+1],none] (B++[.lst []]++[.lst [.loc B.length]])=.ok (.next [#[q],#[s,4],#[B.length+1],k]) a:=by unfold sS;exists 7,dH b,h
  have t:FT [#[q],#[s,4],#[B.length+1],k] a=.ok _ a:=rfl;unfold bN LS;rw[hs,zD o,zD y,t];rfl
 have d: ¬MD ↑5 (QN B.length (Gk s ps [] []).length):=by
  have h:=Di s ps [] [];intro z;have u:MV.loc B.length∈QN B.length (Gk s ps [] []).length:=mM0.mpr ⟨0,mem_range.mpr (by lia),rfl⟩;have:=Gp z _ u;unfold lo at this
  lia
 unfold yC;rw[iP v,w,r,xO,cW];unfold oE;by_cases f:Et S a
 .rw[iP f];dsimp only;rw[iN0 (by lia),j.out];dsimp only;rw[iN0 d]
 .rw[iN0 f]
theorem Y4(S):JN #[10,5] #[30,5] S=.ok #[10 ^ 30,5] S:=rfl
def Jw(kvs)(k d):(∀j∈kvs.map (·.1),j∈(putK kvs k d).map (·.1))/\k∈(putK kvs k d).map (·.1)/\(∀j∈(putK kvs k d).map (·.1),j=k\/j∈kvs.map (·.1))/\(putK kvs k d).length<=kvs.length+1/\(lH k=true->kvs.all (λp=>lH p.1)=true->(putK kvs k d).all (λp=>lH p.1)=true):=by
 unfold putK;by_cases h:(look kvs k).isSome=true
 .rw[iP h];have e:(kvs.map λp=>if p.1=k then(p.1,d)else p).map (·.1)=kvs.map (·.1):=by rw[Ē];refine List.map_congr_left λp _=>?_;show(if p.1=k then _ else p).1=p.1;split<;>rfl
  refine⟨λj a=>by rw[e];exact a,by rw[e];exact Pc h,λj a=>.inr (by rw[e]at a;exact a),by rw[lM0];exact le_succ _,λ_ b=>?_⟩;rw[ì]at b ⊢;intro p i;have:p.1∈kvs.map (·.1):=by rw[<-e];exact List.mem_map_of_mem i
  obtain⟨q,n,f⟩:=mM0.mp this;rw[<-f];exact b q n
 .rw[iN0 h,ï];refine⟨λj a=>ÿ _ a,î _ (mS0.mpr rfl),λj a=>(ê.mp a).elim .inr λz=>.inl (mS0.mp z),by rw[lA];exact à _,λm b=>?_⟩;rw[List.all_append,b];simp[m]
theorem GS: ∀ h ,(∀d∈h,GQ d)-> ∀ b  t ,b.all (λp=>lH p.1)=true->b.length+h.length<1000->
  ∃(f:X0)(t':T0),f.all (λp=>lH p.1)=true/\f.length<=b.length+h.length/\(∀j∈b.map (·.1),j∈f.map (·.1))/\(∀x∈h.filterMap vn,MV.str x∈f.map (·.1))/\(∀j∈f.map (·.1),j∈b.map (·.1)\/ ∃x∈h.filterMap vn,j=MV.str x)/\bA (xY 3) oU [] h (D4 m ↑5 a t) (S++[.dic b])=.ok (.next (D4 m ↑5 a t')) (S++[.dic f])
 |[],_,b,t,ha,_=>⟨b,t,ha,à _,λj k=>k,λx C=>by simp at C,λj k=>.inl k,rfl⟩
 |d::h,hT,b,t,ha,hl=>by
  rw[lC0]at hl;rcases hT d mF0 with⟨x,C,rfl⟩|⟨v,hv,rfl⟩
  .obtain⟨p1,p2,D,G,E⟩:=Jw b (.str x) (.bl true);obtain⟨r,q,u,F,o,A,w,B⟩:=GS h (λe s=>hT e (mO _ s)) _ #[[.str DR,.str x],3] (E rfl ha) (by omega);refine⟨r,q,u,by rw[lC0];lia,λj k=>o j (p1 j k),λy i=>?_,λj k=>?_,?_⟩
   .rw[ĕ,Pb]at i;rcases mC.mp i with rfl|i
    .exact o _ p2
    .exact A y i
   .rw[ĕ,Pb];rcases w j k with z|⟨y,i,z⟩
    .rcases D j z with z|z
     .exact .inr ⟨x,mF0,z⟩
     .exact .inl z
    .exact .inr ⟨y,mO _ i,z⟩
   .rw[yM rfl ?_ (xZ _)]
    .exact B
    .unfold oU pM;exists 7,ZX,VY,Xj,Gb,Ju ha (by omega)
  .obtain⟨r,q,u,F,o,A,w,B⟩:=GS h (λe s=>hT e (mO _ s)) b #[[.str IS,v],3] ha (by lia)
   have n:vn (.tup [.str IS,v])=none:=by
    cases v with
    |str y=>simp[vn]
    |_=>rfl
   refine⟨r,q,u,by rw[lC0];lia,o,λy i=>?_,λj k=>by rw[ĕ,n];exact w j k,?_⟩
   .rw[ĕ,n]at i;exact A y i
   .rw[yM rfl ?_ (xZ _)]
    .exact B
    .unfold oU pM;exists 7,ZX,VY,Xk,fT,iF
theorem PP(r: ∀T,stay gs (S++T)): ∀ as ,(∀d∈as,DS ts d)-> ∀ b  a t ,b.all (λp=>lH p.1)=true->b.length+4 * as.length<1000->
  ∃(f:X0)(K t':T0),f.all (λp=>lH p.1)=true/\(∀j∈b.map (·.1),j∈f.map (·.1))/\(∀x∈rB as,MV.str x∈f.map (·.1))/\(∀j∈f.map (·.1),j∈b.map (·.1)\/ ∃x∈rB as,j=MV.str x)/\bA (xY 2) vP gs as (D4 m ↑5 a t) (S++[.dic b])=.ok (.next (D4 m ↑5 K t')) (S++[.dic f])
 |[],_,b,a,t,ha,_=>⟨b,a,t,ha,λj k=>k,λx i=>by simp[rB]at i,λj k=>.inl k,rfl⟩
 |d::as,hA,b,a,t,ha,hl=>by
  rw[lC0]at hl;obtain⟨N,n,p,rfl,_,_,_,M,P,L,G⟩:=hA d mF0;obtain⟨s,A,D,O,w,I,B,H⟩:=GS n G b t ha (by lia);obtain⟨C,o,y,E,q,v,F,J⟩:=PP r as (λe u=>hA e (mO _ u)) s _ A D (by lia);refine⟨C,o,y,E,λj k=>q j (w j k),λx i=>?_,λj k=>?_,?_⟩
  .unfold rB at i;rw[List.flatMap_cons,ê]at i;rcases i with h|h
   .exact q _ (I x h)
   .exact v x h
  .unfold rB;rcases F j k with z|⟨x,i,z⟩
   .rcases B j z with z|⟨x,i,z⟩
    .exact .inl z
    .exact .inr ⟨x,ÿ _ i,z⟩
   .exact .inr ⟨x,î _ i,z⟩
  .rw[yM rfl ?_ (r _)]
   .exact J
   .unfold vP CT;exists 7,VY,show∀(ds:R0) _,Ki #[ds,6] S=.ok ⟨ds,[]⟩ S from λds S=>rfl,H
theorem H9(h:SqM S m as)(s: ∀d∈as,DS ts d)(G:as.length<=4):
  ∃q:List MV,(∀k,k∈q↔ ∃x∈rB as,k=MV.str x)/\yC 1 fD [.val m] S=.ok (.new q) S:=by
 obtain⟨F,v,i⟩:=h.itQ;obtain⟨a,o,j,n,_,E,w,A⟩:=PP (m:=m) v as s [] none none rfl (by simp only[ë];lia);have hs:zU GL [m]=[some m,none,none,none]:=rfl;have r:vQ [some m,none,none,none] S=.ok (.next (D4 m ↑5 none none)) (S++[.dic []]):=by unfold vQ;exists 7,Nh
 have D:vR (D4 m ↑5 none none) (S++[.dic []])=.ok (.next (D4 m ↑5 o j)) (S++[.dic a]):=by unfold vR;exists 7,i,A
 have b:OW [#[↑5,1]] (S++[.dic a])=.ok (.new (a.map (·.1))) (S++[.dic a]):=by
  have e:LM (S++[.dic a]) #[↑5,1]=some (↑5,a):=by unfold LM;dsimp only;rw[yP];dsimp only;rw[iP n]
  unfold OW;dsimp only;rw[e]
 have t:vS (D4 m ↑5 o j) (S++[.dic a])=.ok (.ret (.new (a.map (·.1)))) (S++[.dic a]):=by unfold vS;exists 7,b
 have u:fD [m] S=.ok (.new (a.map (·.1))) (S++[.dic a]):=by unfold fD OZ;rw[hs,zD r,zD D,t];rfl
 have f: ∀k∈a.map (·.1),lH k=true:=λk b=>by obtain⟨p,y,rfl⟩:=mM0.mp b;exact ì.mp n p y
 refine⟨a.map (·.1),λk=>⟨λb=>(w k b).elim (λz=>by simp at z) id,λ⟨x,C,e⟩=>e▸E x C⟩,DQ rfl rfl u (.inl rfl) (kN λd B=>?_)⟩;have:=f d B
 cases d with
 |str x=>exact dS _ _
 |_=>exact absurd this xF0
mutual
def pq:MV->Bool
 |.int _=>true
 |.str x=>decide (x.length<=1000)
 |.bl _=>true
 |.non=>true
 |.tup ds=>Ra ds&&decide (ds.length<=1000)
 |_=>false
def Ra:List MV->Bool
 |[]=>true
 |d::ds=>pq d&&Ra ds
end
def WC(i):pq (.int i)=true:=by rw[pq]
def Y5(i):pq (.bl i)=true:=by rw[pq]
def KQ(h:x.length<=1000):pq (.str x)=true:=by rw[pq];exact dT0 h
def WD(ds):pq (.tup ds)=(Ra ds&&decide (ds.length<=1000)):=by rw[pq]
def Vn:Ra []=true:=by rw[Ra]
def IP(d)(ds):Ra (d::ds)=(pq d&&Ra ds):=by rw[Ra]
theorem Gr: ∀{ds},(∀d∈ds,pq d=true)->Ra ds=true
 |[],_=>Vn
 |d::ds,h=>by rw[IP,h d mF0,Gr λe a=>h e (mO _ a)];rfl
theorem Gs: ∀{ds},Ra ds=true-> ∀d∈ds,pq d=true
 |[],_,d,h=>by simp at h
 |e::ds,hp,d,h=>by
  rw[IP,aE]at hp;rcases mC.mp h with rfl|h
  .exact hp.1
  .exact Gs hp.2 d h
theorem Dj(h: ∀d∈ds,pq d=true)(a:ds.length<=1000):pq (.tup ds)=true:=by rw[WD,Gr h,dT0 a];rfl
def iR(h:pq d=true):(∃i,d=.int i)\/(∃x,d=.str x/\x.length<=1000)\/(∃b,d=.bl b)\/d=.non\/ ∃a,d=.tup a/\(∀e∈a,pq e=true)/\a.length<=1000:=by
 cases d with
 |int i=>exact .inl ⟨i,rfl⟩
 |str x=>rw[pq]at h;exact .inr (.inl ⟨x,rfl,ñ h⟩)
 |bl b=>exact .inr (.inr (.inl ⟨b,rfl⟩))
 |non=>exact .inr (.inr (.inr (.inl rfl)))
 |tup a=>
  rw[WD,aE]at h;exact .inr (.inr (.inr (.inr ⟨a,rfl,Gs h.1,ñ h.2⟩)))
 |_=>rw[pq]at h<;>first |cases h|(intros;simp)
theorem Po: ∀ k {d},KM d<k->pq d=true->lo n d
 |0,d,h,_=>by lia
 |k+1,d,hk,h=>by
  rcases iR h with⟨i,rfl⟩|⟨x,rfl,_⟩|⟨b,rfl⟩|rfl|⟨ds,rfl,hp,_⟩
  .exact sI _ _
  .exact dS _ _
  .exact LL _ _
  .exact JS _
  .rw[dO]at hk;exact dU (kN λe a=>Po k (by have:=DO e a;lia) (hp e a))
theorem PQ: ∀{ds},(∀d∈ds,e d d=some true)->IX e ds ds=some (ds.map λ_=>true)
 |[],_=>rfl
 |d::ds,h=>by unfold IX;rw[h d mF0,PQ λa b=>h a (mO _ b)];rfl
theorem TR(ds:R0):(ds.map λ_=>true).all id=true:=by rw[ì];intro b a;obtain⟨_,_,rfl⟩:=mM0.mp a;rfl
theorem eqv_refl: ∀ n {d},pq d=true->KM d<n->eqv S n d d=some true
 |0,d,_,h=>by lia
 |n+1,d,a,h=>by
  rcases iR a with⟨i,rfl⟩|⟨x,rfl,_⟩|⟨b,rfl⟩|rfl|⟨ds,rfl,hp,_⟩
  .rw[MX,dT0 rfl]
  .rw[nW,dT0 rfl]
  .rw[B2,beq_self_eq_true]
  .rfl
  .rw[dO]at h;show((IX _ ds ds).map λbs=>bs.all id&&ds.length==ds.length)=_;rw[PQ λd a=>eqv_refl n (hp d a) (by have:=DO d a;lia)];show some ((ds.map λ_=>true).all id&&ds.length==ds.length)=_;rw[TR,beq_self_eq_true];rfl
theorem J8(n)(y)(h:pq d=true):eqv S (n+1) d (.str y)=some (decide (d=.str y)):=by
 rcases iR h with⟨i,rfl⟩|⟨x,rfl,_⟩|⟨b,rfl⟩|rfl|⟨ds,rfl,_⟩
 .rw[Nc,dF0 (by simp)]
 .rw[nW];exact congrArg some (dec_is (by simp))
 .rw[dF0 (by simp)];rfl
 .rw[dF0 (by simp)];rfl
 .rw[dF0 (by simp)];rfl
theorem J9(n)(y)(h:pq d=true):eqv S (n+1) (.str y) d=some (decide (MV.str y=d)):=by
 rcases iR h with⟨i,rfl⟩|⟨x,rfl,_⟩|⟨b,rfl⟩|rfl|⟨ds,rfl,_⟩
 .rw[Nd,dF0 (by simp)]
 .rw[nW];exact congrArg some (dec_is (by simp))
 .rw[dF0 (by simp)];rfl
 .rw[dF0 (by simp)];rfl
 .rw[dF0 (by simp)];rfl
def Gu(y)(h:pq d=true)(S):pB (.val d) (.val (.str y)) S=.ok (.val (.bl (decide (d=.str y)))) S:=VD (J8 _ y h)
theorem Pp(h:pq d=true): ∀(a:Ch),ME S zR d (a.map MV.str)=some (a.map λy=>decide (MV.str y=d))
 |[]=>rfl
 |y::a=>by rw[è];unfold ME;rw[show zR=39+1 from rfl,J9 39 y h, <-show zR=39+1 from rfl,Pp h a];rfl
def K1(a:Ch)(d):(a.map λy=>decide (MV.str y=d)).any id=decide (d∈a.map MV.str):=by
 rw[List.any_map];by_cases h:d∈a.map MV.str
 .rw[dT0 h,List.any_eq_true];obtain⟨y,b,e⟩:=mM0.mp h;exact⟨y,b,by simp[e]⟩
 .rw[dF0 h,List.any_eq_false];intro y b;simp only[Function.comp,id,ċ];exact λe=>h (mM0.mpr ⟨y,b,e⟩)
def K2{a:Ch}(neg)(h:pq d=true)(b:itemsOf S q=some (a.map MV.str)):CA neg (.val d) q S=.ok (.val (.bl (if neg=true then !decide (d∈a.map MV.str)else decide (d∈a.map MV.str)))) S:=by unfold CA;rw[b];dsimp only;rw[Pp h];dsimp only;rw[K1]
theorem Xn{a:Ch}(neg)(h:pq d=true)(e:itemsOf S q=some (a.map MV.str))(b: ∀y,q≠.val (.str y)):JQ neg (.val d) q S=.ok (.val (.bl (if neg=true then !decide (d∈a.map MV.str)else decide (d∈a.map MV.str)))) S:=by
 rw[<-K2 neg h e];unfold JQ;split
 .exact absurd rfl (b _)
 .rfl
noncomputable def isI:MV->Bool
 |.int _=>true
 |_=>false
theorem Gv(h:pq d=true)(S):yC 1 bI [.val d] S=.ok (.val (.bl (isI d))) S:=by
 rcases iR h with⟨i,rfl⟩|⟨x,rfl,_⟩|⟨b,rfl⟩|rfl|⟨ds,rfl,_⟩
 .exact DP i S
 .exact ZW x S
 .exact xL rfl rfl
 .exact xL rfl rfl
 .exact xL rfl rfl
noncomputable def MG(c:Nat):Bool:=decide (97<=c)&&decide (c<=122)
def K5(x:Db):Bool:=decide (1<=x.length)&&decide (x.length<=8)&&x.all MG
def NC:K5 x=true↔Nm x:=by unfold K5 Nm MG;simp only[aE,ċ,ì,and_assoc]
def O9:MV->Bool
 |.str x=>K5 x
 |_=>false
theorem Gw{α:Type}(f)(xs:List α)(S):QU [.new (xs.map λx=>.bl (f x))] S=.ok (.val (.bl (xs.all f))) S:=by
 have h: ∀xs:List α,iC (xs.map λx=>.bl (f x))=some (xs.map f):=by
  intro xs
  induction xs with
  |nil=>rfl
  |cons x xs ih=>rw[è];unfold iC;rw[ih];rfl
 show(match (some _).bind iC with |some bs=>R.ok _ S|none=>.no)=_;rw[show(some _).bind iC=some _ from h xs];show R.ok _ S=_;rw[List.all_map];rfl
theorem Pq(h:pq d=true)(S):yC 1 kP [.val d] S=.ok (.val (.bl (O9 d))) S:=by
 rcases iR h with⟨i,rfl⟩|⟨x,rfl,hx⟩|⟨b,rfl⟩|rfl|⟨ds,rfl,_⟩
 .exact xL rfl rfl
 .have e:K5 x=gZ x:=by unfold K5 gZ Dg;rw[show(λc=>decide (97<=c/\c<=122))=MG from funext λc=>by unfold MG;rw[decide_and],show decide (1<=(x.length:Int))=decide (1<=x.length)from Ĕ.mpr (by lia),show decide ((x.length:Int)<=8)=decide (x.length<=8)from Ĕ.mpr (by lia)]
  show yC 1 kP [.val (.str x)] S=.ok (.val (.bl (K5 x))) S;rw[e];exact Ac x (by lia) S
 .exact xL rfl rfl
 .exact xL rfl rfl
 .exact xL rfl rfl
def Vo:MV->Bool
 |.int i=>decide (-(10 ^ 30)<i)&&decide (i<10 ^ 30)
 |.str x=>K5 x
 |_=>false
def WF:Vo d=true↔Vl d:=by
 cases d with
 |int i=>simp[Vo,Vl]
 |str x=>exact NC
 |_=>exact⟨λz=>absurd z xF0,λz=>z.elim⟩
theorem Vq(h:pq d=true)(S):yC 1 vO [.val d] S=.ok (.val (.bl (Vo d))) S:=by
 refine xL rfl ?_;have f:vN [some d] S=.ok (.ret (.val (.bl (O9 d)))) S:=by unfold vN;simp? [Pq h]
 show xF (GN [some d] S)=_;unfold GN
 cases hi:isI d with
 |false=>
  have e:nZ [some d] S=.ok (.next [some d]) S:=by unfold nZ;simp? [Gv h,hi,fT,iF]
  rw[zD e,f];cases d<;>first |rfl|cases hi
 |true=>
  obtain⟨i,rfl⟩: ∃i,d=.int i:=by cases d<;>first |exact⟨_,rfl⟩|cases hi
  have a:Th [#[i,5]] S=.ok _ S:=rfl
  have b:decide ((if i<0 then -i else i)<(10:Int) ^ 30)=Vo (.int i):=by
   show _=(decide _&&decide _)
   rw[<-decide_and];exact Ĕ.mpr (by split<;>omega)
  rw[yL (show nZ [some _] S=.ok (.ret (.val (.bl (Vo (.int i))))) S by unfold nZ;simp? [DP,a,Y4,lt_int,b])];rfl
noncomputable def zAJ(a b:Int):MV->Bool
 |.tup ds=>decide (a<=ds.length)&&decide ((ds.length:Int)<=b)
 |_=>false
def ND(h:pq d=true)(a b)(S):yC 3 bK [.val d,#[a,5],#[b,5]] S=.ok (.val (.bl (zAJ a b d))) S:=by
 rcases iR h with⟨i,rfl⟩|⟨x,rfl,_⟩|⟨k,rfl⟩|rfl|⟨ds,rfl,_⟩
 .exact xL rfl rfl
 .exact xL rfl rfl
 .exact xL rfl rfl
 .exact xL rfl rfl
 .exact Vd ds a b S
noncomputable def inB(b:Int):MV->Bool
 |.int i=>decide (0<=i)&&decide (i<b)
 |_=>false
def Vr(h:pq d=true)(b)(S):yC 2 kW [.val d,#[b,5]] S=.ok (.val (.bl (inB b d))) S:=by
 cases hi:isI d with
 |false=>
  have e:inB b d=false:=by cases d<;>first |rfl|cases hi
  rw[e];refine xL rfl ?_;show xF (kU [some d,some _] S)=_;unfold kU cL;simp? [Gv h,hi];rfl
 |true=>
  obtain⟨i,rfl⟩: ∃i,d=.int i:=by cases d<;>first |exact⟨_,rfl⟩|cases hi
  exact Ve i b S
noncomputable def pr:MV->Option (MV×MV)
 |.tup [a,b]=>some (a,b)
 |_=>none
def Ag(h:pr d=some (a,b)):d=.tup [a,b]:=by
 unfold pr at h;split at h
 .cases h;rfl
 .cases h
theorem Xo:zAJ 2 2 d=(pr d).isSome:=by
 cases d with
 |tup ds=>
  match ds with
  |[]=>rfl
  |[_]=>rfl
  |[_,_]=>rfl
  |_::_::_::r=>
   show(decide _&&decide (((r.length+3:Nat):Int)<=2))=false;rw[dF0 (show¬((_:Int)<=2) by lia),Bool.and_false]
 |_=>rfl
def Xp(h:pq d=true)(e:pr d=some (a,b)):pq a=true/\pq b=true:=by rw[Ag e,WD,IP,IP,aE,aE,aE]at h;exact⟨h.1.1,h.1.2.1⟩
def Pr(d:MV):Bool:=match pr d with
 |some (a,b)=>if a=.str DR then O9 b else if a=.str IS then Vo b else false
 |none=>false
def K6(h:pq d=true)(S):yC 1 EQ [.val d] S=.ok (.val (.bl (Pr d))) S:=by
 refine xL rfl ?_;show xF (KB [some d] S)=_;unfold KB Pr;have f:=ND h 2 2 S;rw[Xo]at f
 cases j:pr d with
 |none=>
  rw[j]at f;have m:iG [some d] S=.ok (.ret (.val (.bl false))) S:=by unfold iG;exists 7,f,Option.isSome_none,Ă
  rw[yL m];rfl
 |some ab=>
  obtain⟨a,b⟩:=ab;rw[j]at f;obtain⟨k,p⟩:=Xp h j;have q:=Ag j;subst q;have m:iG [#[[a,b],3]] S=.ok (.next [#[[a,b],3]]) S:=by unfold iG;exists 7,f,Option.isSome_some,ø,fT,iF
  rw[zD m];by_cases e:a=.str DR
  .have o:iH [#[[a,b],3]] S=.ok (.ret (.val (.bl (O9 b)))) S:=by unfold iH;simp? [ZX,VY,Gu DR k,dT0 e,Pq p]
   rw[yL o];show R.ok _ S=_;dsimp only;rw[iP e]
  .have o:iH [#[[a,b],3]] S=.ok (.next [#[[a,b],3]]) S:=by unfold iH;simp? [ZX,VY,Gu DR k,dF0 e,fT,iF]
   rw[zD o];by_cases i:a=.str IS
   .have n:iI [#[[a,b],3]] S=.ok (.ret (.val (.bl (Vo b)))) S:=by unfold iI;simp? [ZX,VY,Gu IS k,dT0 i,QR,Vq p]
    rw[n];show R.ok _ S=_;dsimp only;rw[iN0 e,iP i]
   .have n:iI [#[[a,b],3]] S=.ok (.ret (.val (.bl false))) S:=by unfold iI;simp? [ZX,VY,Gu IS k,dF0 i,QR];rfl
    rw[n];show R.ok _ S=_;dsimp only;rw[iN0 e,iN0 i]
noncomputable def Dk:MV->Option (List MV)
 |.tup ds=>some ds
 |_=>none
def Rb(ts:Tk)(t:Int)(b:MV):Bool:=if 0<=t/\t<ts.length then(match ts[t.toNat]?,Dk b with
  |some p,some tms=>decide ((tms.length:Int)=p.1)&&tms.all Pr
  |_,_=>false)else false
def atQ(ts:Tk):MV->MV->Bool
 |.int t,b=>Rb ts t b
 |_,_=>false
def Km(ts:Tk)(d:MV):Bool:=match pr d with
 |some (a,b)=>atQ ts a b
 |none=>false
theorem Pt{ts:Tk}{t:Int}(b:0<=t)(d:t<ts.length): ∃p,ts[t.toNat]? =some p/\iU (ts.map tbl) t=some (tbl p)/\p∈ts:=by
 have a:t.toNat<ts.length:=by lia
 refine⟨ts[t.toNat],gE a,?_,getElem_mem a⟩;unfold iU QK;rw[iP b,iP (by rw[lM0];exact d)];simp only[Option.bind_some,ü];rw[gE a];rfl
def Y6(h:Pr d=true):GQ d:=by
 unfold Pr at h
 cases e:pr d with
 |none=>rw[e]at h;cases h
 |some ab=>
  obtain⟨a,b⟩:=ab;rw[e]at h;dsimp only at h;rw[Ag e];split at h
  .rename_i f;subst f
   cases b with
   |str x=>exact .inl ⟨x,NC.mp h,rfl⟩
   |_=>cases h
  .split at h
   .rename_i f;subst f;exact .inr ⟨b,WF.mp h,rfl⟩
   .cases h
def Xq(i:ZS ts)(h:Km ts d=true):DS ts d:=by
 unfold Km at h
 cases f:pr d with
 |none=>rw[f]at h;cases h
 |some ab=>
  obtain⟨a,b⟩:=ab;rw[f]at h
  cases a with
  |int t=>
   have h:Rb ts t b=true:=h;unfold Rb at h;split at h
   .rename_i e;obtain⟨p,k,m,j⟩:=Pt e.1 e.2;rw[k]at h
    cases b with
    |tup tms=>
     simp only[Dk,aE,ċ,ì]at h;exact⟨t,tms,p,Ag f,e.1,e.2,m,h.1,(i.2.2 p j).1,(i.2.2 p j).2.1,λd n=>Y6 (h.2 d n)⟩
    |_=>cases h
   .cases h
  |_=>cases h
theorem IQ(ds)(S):Ki #[ds,6] S=.ok ⟨ds,[]⟩ S:=rfl
def Vs(h:Dk b=some ds):b=.tup ds:=by cases b<;>first |(cases h;rfl)|cases h
def Pu(h:Dk d=none):zAJ a b d=false:=by cases d<;>first |rfl|cases h
theorem K7(B:ZS ts)(h:pq d=true)(S):yC 2 ER [.val d,#[ts.map tbl,6]] S=.ok (.val (.bl (Km ts d))) S:=by
 refine xL rfl ?_;show xF (KC [some d,some _,none] S)=_;unfold KC Km;have j:=ND h 2 2 S;rw[Xo]at j;have C:(((ts.map tbl).length:Nat):Int)=ts.length:=by rw[lM0]
 cases m:pr d with
 |none=>
  rw[m]at j;have f:iK [some d,#[ts.map tbl,3],none] S=.ok (.ret (.val (.bl false))) S:=by unfold iK;exists 7,j,Option.isSome_none,Ă
  rw[yL f];rfl
 |some ab=>
  obtain⟨a,b⟩:=ab;rw[m]at j;obtain⟨E,s⟩:=Xp h m;have r:=Ag m;subst r;have f:iK [#[[a,b],3],#[ts.map tbl,3],none] S=if inB ts.length a=true then .ok (.next [#[[a,b],3],#[ts.map tbl,3],none]) S else .ok (.ret (.val (.bl false))) S:=by unfold iK;simp? [j,Option.isSome_some,ø,fT,iF,ZX,gY,C,Vr E];cases inB ts.length a<;>rfl
  cases i:inB ts.length a with
  |false=>
   rw[i,iN0 xF0]at f;rw[yL f]
   have:atQ ts a b=false:=by
    cases a with
    |int t=>
     show Rb ts t b=false;unfold Rb;rw[iN0];intro z;simp[inB,z.1,z.2]at i
    |_=>rfl
   dsimp only;rw[this];rfl
  |true=>
   rw[i,iP rfl]at f;rw[zD f];obtain⟨t,rfl⟩: ∃t,a=.int t:=by cases a<;>first |exact⟨_,rfl⟩|cases i
   have e:0<=t/\t<ts.length:=by simpa [inB]using i
   obtain⟨p,D,A,v⟩:=Pt e.1 e.2;have w:=B.2.2 p v;have G:CS [#[[.int t,b],3],#[ts.map tbl,3],none] S=.ok (.next [#[[.int t,b],3],#[ts.map tbl,3],#[p.1,0]]) S:=by unfold CS;exists 7,ZX,ix_tup (S:=S) A,show∀S:Sto,gL (.val (tbl p)) #[0,5] S=.ok #[p.1,5] S from λS=>rfl
   rw[zD G];have H:atQ ts (.int t) b=(match Dk b with |some tms=>decide ((tms.length:Int)=p.1)&&tms.all Pr|none=>false):=by show Rb ts t b=_;unfold Rb;rw[iP e,D];cases Dk b<;>rfl
   dsimp only;rw[H]
   cases k:Dk b with
   |none=>
    have n:iL [#[[.int t,b],3],#[ts.map tbl,3],#[p.1,0]] S=.ok (.ret (.val (.bl false))) S:=by unfold iL;simp? [VY,ND s,Pu k,QR];rfl
    rw[n];rfl
   |some tms=>
    have q:=Vs k;subst q;rcases iR s with⟨_,z⟩|⟨_,z,_⟩|⟨_,z⟩|z|⟨ds,z,htm,hlen⟩
    .cases z
    .cases z
    .cases z
    .cases z
    cases z;have o:zAJ p.1 p.1 (.tup tms)=decide ((tms.length:Int)=p.1):=by show(decide _&&decide _)=_;rw[<-decide_and];exact Ĕ.mpr (by omega)
    have y:xV (xY 0) FO sO [none] [] tms S=.ok _ S:=uS (F:=λd=>.bl (Pr d)) (xZ _) λd r=>⟨[some d],rfl,rfl,by unfold sO;exists 7,K6 (htm d r) S⟩
    have u:tms.length<1000000:=by omega
    have n:iL [#[[.int t,.tup tms],3],#[ts.map tbl,3],#[p.1,0]] S=.ok (.ret (.val (.bl (decide ((tms.length:Int)=p.1)&&tms.all Pr)))) S:=by
     unfold iL;simp? [VY,ND s,o,QR]
     cases decide ((tms.length:Int)=p.1)with
     |false=>rfl
     |true=>
      simp? [IQ,u,show vD 1 [] [some _,#[ts.map tbl,3],#[p.1,0]]=[none]from rfl,y,Gw,ģ]
    rw[n];rfl
theorem iS(hs:stay gs S):
  ∀{ds},(∀d∈ds, ∃a,gf d ρb S=.ok a S/\cf a S=.ok (p d) S/\ef a S=.ok (.val d) S)->xV gf cf ef ρb gs ds S=.ok (ds.filter p) S
 |[],_=>rfl
 |d::ds,st=>by
  obtain⟨a,f,h,j⟩:=st d mF0;have e:=iS hs λd i=>st d (mO _ i);unfold xV
  cases b:p d with
  |true=>
   rw[f,xO,cW,h,xO,cW,b,j,xO,cW];unfold dR;rw[cW,iP hs,e,List.filter_cons_of_pos b];rfl
  |false=>
   rw[f,xO,cW,h,xO,cW,b,iN0 xF0,iP hs,e,List.filter_cons_of_neg (by rw[b];exact xF0)]
theorem Vt(ds)(S):pB (.new ds) (.new []) S=.ok (.val (.bl ds.isEmpty)) S:=by cases ds<;>rfl
theorem PR{α:Type}(p)(xs:List α):(xs.filter λx=>!p x).isEmpty=xs.all p:=by
 induction xs with
 |nil=>rfl
 |cons x xs ih=>
  rw[Ě]
  cases h:p x with
  |true=>rw[List.filter_cons_of_neg (by rw[h];simp),ih];rfl
  |false=>rw[List.filter_cons_of_pos (by rw[h];rfl)];rfl
theorem Vu(c):decide (c∈abc)=MG c:=by
 unfold MG;rw[<-decide_and];refine Ĕ.mpr ?_;rw[show abc=List.range' 97 26 from rfl,List.mem_range'_1]
 lia
def Vv(ys):diff ys<=ys.length:=VG _ _
def Ah(h:SqM S m (hs.map MV.str))(d:hs.length<4000):LN [.val m] S=.ok #[diff hs,5] S:=by
 have e: ∃q:Sr,srcOf S (.val m)=some q/\q.ds=hs.map MV.str:=by
  rcases h with rfl|⟨l,rfl,hS⟩
  .exact⟨_,rfl,rfl⟩
  .refine⟨⟨true,hs.map MV.str,[(l,hs.map MV.str)]⟩,?_,rfl⟩;unfold srcOf;dsimp only;rw[hS]
 obtain⟨q,a,b⟩:=e;unfold LN;dsimp only;rw[a];dsimp only;rw[b,strs_map];dsimp only;rw[iP d]
def Bg(as:R0)(d:MV):Bool:=decide (d∈(rB as).map MV.str)
def cnt(ds:R0):Nat:=match strsOf ds with
 |some ys=>diff ys
 |none=>0
def Y7(as hds:R0):Bool:=decide (hds.length<=4)&&hds.all (Bg as)&&decide (cnt hds=hds.length)
theorem all_strs: ∀{hds},hds.all (Bg as)=true-> ∃a:List (List Nat),hds=a.map MV.str
 |[],_=>⟨[],rfl⟩
 |d::hds,h=>by rw[Ě,aE]at h;obtain⟨a,rfl⟩:=all_strs h.2;obtain⟨x,_,rfl⟩:=mM0.mp (ñ h.1);exact⟨x::a,rfl⟩
section
variable{as:R0}
def K9(m:S[l]? =#[ks,2])(f: ∀k,k∈ks↔ ∃x∈rB as,k=MV.str x)(h:pq d=true):JQ false (.val d) #[l,1] S=.ok (.val (.bl (Bg as d))) S:=by
 obtain⟨b,rfl⟩: ∃b:List _,ks=b.map MV.str:=by refine all_strs (as:=as) (ì.mpr λk i=>?_);obtain⟨x,a,rfl⟩:=(f k).mp i;exact dT0 (mM0.mpr ⟨x,a,rfl⟩)
 have j:itemsOf S #[l,1]=some (b.map MV.str):=by unfold itemsOf;exact kC m
 rw[Xn false h j (λy=>by simp),iN0 xF0];congr 4;refine propext ⟨λz=>?_,λz=>?_⟩
 .obtain⟨x,a,e⟩:=(f d).mp z;exact mM0.mpr ⟨x,a,e.symm⟩
 .obtain⟨x,a,e⟩:=mM0.mp z;exact(f d).mpr ⟨x,a,e.symm⟩
theorem L3(h:SqM S hm hds)(C:SqM S am as)(r: ∀d∈as,DS ts d)(v:as.length<=4)(y: ∀d∈hds,pq d=true)(D:hds.length<=1000):yC 2 pD [.val hm,.val am] S=.ok (.val (.bl (Y7 as hds))) S:=by
 obtain⟨a,u,w⟩:=H9 C r v;have m:zU EO [hm,am]=[some hm,some am,none]:=rfl;have q:CU [some hm,some am,none] S=.ok (.next [some hm,some am,#[↑5]]) (S++[.lst a]):=by unfold CU;exists 7,w
 obtain⟨B,t,j⟩:=h.itQ;have b:kS [.val hm] (S++[.lst a])=.ok #[((hds.length:Nat):Int),5] (S++[.lst a]):=(h.app (T:=[.lst a])).len;have o:xV (xY 0) FP sP [none,#[↑5]] B hds (S++[.lst a])=.ok (hds.map λd=>MV.bl (Bg as d)) (S++[.lst a]):=uS (F:=λd=>.bl (Bg as d)) (t _) λd A=>⟨[some d,#[↑5]],rfl,rfl,by unfold sP;exists 7,K9 (yP S (.lst a)) u (y d A)⟩
 have p:hds.length<1000000:=by lia
 have i:CV [some hm,some am,#[↑5]] (S++[.lst a])=if(decide (hds.length<=4)&&hds.all (Bg as))=true then .ok (.next [some hm,some am,#[↑5]]) (S++[.lst a])else .ok (.ret (.val (.bl false))) (S++[.lst a]):=by
  unfold CV;by_cases e:hds.length<=4
  .simp? [b,gt_int,dF0 (show¬(4:Int)<(hds.length:Nat) by lia),j,p,show vD 1 [2] [some hm,some am,#[↑5]]=[none,#[↑5]]from rfl,o,Gw,fT,iF,dT0 e];cases hds.all (Bg as)<;>rfl
  .simp? [b,gt_int,dT0 (show(4:Int)<(hds.length:Nat) by lia),dF0 e];rfl
 refine nV (T:=[.lst a]) rfl ?_ (LL _ _) (λl=>by simp);show pD [hm,am] S=_;unfold pD TH Y7;rw[m,zD q]
 cases f:decide (hds.length<=4)&&hds.all (Bg as)with
 |false=>
  rw[f,iN0 xF0]at i;rw[yL i,ĝ];rfl
 |true=>
  rw[f,iP rfl]at i;rw[aE]at f;obtain⟨n,rfl⟩:=all_strs f.2;rw[lM0]at D;have k:LN [.val hm] (S++[.lst a])=.ok #[(diff n:Nat),5] (S++[.lst a]):=Ah (h.app (T:=[.lst a])) (by lia);have s:CW [some hm,some am,#[↑5]] (S++[.lst a])=.ok (.ret (.val (.bl (decide (cnt (n.map MV.str)=(n.map MV.str).length))))) (S++[.lst a]):=by unfold CW cnt;simp? [k,b,strs_map,eq_int];congr 5;exact propext ⟨λz=>by lia,λz=>by lia⟩
  rw[zD i,s,ģ];rfl
noncomputable def BK(ts:Tk):List MV->Nat->Option Nat
 |[],_=>none
 |a::as,n=>if Km ts a=true then BK ts as (n+1)else some n
theorem GT: ∀{as}{n},BK ts as n=none-> ∀a∈as,Km ts a=true
 |[],_,_,a,h=>by simp at h
 |b::as,n,h,a,ha=>by
  unfold BK at h;split at h
  .rcases mC.mp ha with rfl|ha
   .assumption
   .exact GT h a ha
  .cases h
def P4(as hds:R0):Bool:=decide (1<=as.length)&&decide (as.length<=4)&&Y7 as hds
def PV(ts:Tk)(hds as:R0):Option Nat:=match BK ts as 0 with
 |some k=>some k
 |none=>if P4 as hds=true then none else some as.length
theorem Vx(a:gf d ρ S=.ok ρ0 S0)(h:b ρ0 S0=.exc c fs S'):bA gf b gs (d::ds) ρ S=.exc c fs S':=by unfold bA;rw[a,cW,h];rfl
theorem eF(h:F ρ S=.exc c fs S'):zM F G ρ S=.exc c fs S':=by unfold zM;rw[h];rfl
noncomputable abbrev NQ(k:Nat):List (Str×MV):=[("place",.int (k:Nat))]
def Gx(h:k<=1000000)(S):O8 "NoQuestion" "place" #[(k:Nat),5] S=.exc "NoQuestion" (NQ k) S:=iP (Nat.lt_of_le_of_lt (by omega:(k:Int).natAbs<=1000000) (by decide+kernel))
theorem Gy(i:ZS ts)(m:stay gs S): ∀ L  n ,(∀d∈L,pq d=true)->n+L.length<=1000000-> ∀ p a , ∃h f,bA (MU 2 (yR (xY 3) (yR (xY 4) nB))) dI gs ((L.zipIdx n).map λp=>.tup [.int (p.2),p.1]) (Q5 ↑2 hm am p a) S=
   match BK ts L n with
   |none=>.ok (.next (Q5 (.tup (ts.map tbl)) hm am h f)) S
   |some k=>.exc "NoQuestion" (NQ k) S
 |[],n,_,_,p,a=>⟨p,a,rfl⟩
 |d::L,n,hL,hn,p,a=>by
  rw[lC0]at hn;obtain⟨h,f,o⟩:=Gy i m L (n+1) (λe q=>hL e (mO _ q)) (by lia) #[(n:Nat),0] (some d);refine⟨h,f,?_⟩;have b:=K7 i (hL d mF0) S;have g:MU 2 (yR (xY 3) (yR (xY 4) nB)) (.tup [.int (n:Nat),d]) (Q5 ↑2 hm am p a) S=.ok _ S:=rfl;rw[zipIdx_cons,è];unfold BK
  cases j:Km ts d with
  |true=>
   rw[j]at b;rw[yM g ?_ m]
   .exact o
   .unfold dI aB;exists 7,b,ø,fT,iF
  |false=>
   rw[j]at b;refine Vx g ?_;unfold dI aB;simp? [b,Ă,Gx (show n<=1000000 by lia)]
theorem Y8(r:ZS ts)(h:SqM S hm hds)(b:SqM S am as)(u: ∀d∈as,pq d=true)(C:as.length<=1000)(A: ∀d∈hds,pq d=true)(n:hds.length<=1000):
  gM [.tup (ts.map tbl),hm,am] S=match PV ts hds as with
   |none=>.ok #[[.tup hds,.tup as],6] S
   |some k=>.exc "NoQuestion" (NQ k) S:=by
 have m:zU sL [.tup (ts.map tbl),hm,am]=[#[ts.map tbl,3],some hm,some am,none,none]:=rfl;have t:lK (Q5 ↑2 hm am none none) S=.ok (.next (Q5 ↑2 hm am none none)) S:=by unfold lK;exists 7,ZY b,ø,fT,iF
 obtain⟨B,v,e⟩:=b.itE;obtain⟨i,p,a⟩:=Gy (ts:=ts) (hm:=hm) (am:=am) r v as 0 u (by lia) none none;unfold gM FQ PV;rw[m,zD t]
 cases q:BK ts as 0 with
 |some k=>
  rw[q]at a;rw[eF (show gG _ S=.exc "NoQuestion" (NQ k) S by unfold gG;simp? [e];exact a)];rfl
 |none=>
  rw[q]at a;have w: ∀d∈as,DS ts d:=λd z=>Xq r (GT q d z);rw[zD (show gG _ S=.ok _ S by unfold gG;simp? [e];exact a)]
  have f:lL (Q5 ↑2 hm am i p) S=if P4 as hds=true then .ok (.next (Q5 ↑2 hm am i p)) S else .exc "NoQuestion" (NQ as.length) S:=by
   unfold lL P4;by_cases o:1<=as.length
   .by_cases j:as.length<=4
    .simp? [b.len,JG,le_int,dT0 (show(1:Int)<=(as.length:Nat) by lia),dT0 (show((as.length:Nat):Int)<=4 by lia),ZY h,L3 h b w j A n,ø,fT,iF,dT0 o,dT0 j,Gx (show as.length<=1000000 by lia)];cases Y7 as hds<;>rfl
    .simp? [b.len,JG,le_int,dT0 (show(1:Int)<=(as.length:Nat) by lia),dF0 (show¬((as.length:Nat):Int)<=4 by lia),Ă,dT0 o,dF0 j,Gx (show as.length<=1000000 by lia)];rfl
   .simp? [b.len,JG,le_int,dF0 (show¬(1:Int)<=(as.length:Nat) by lia),Ă,fT,iF,ĝ,dF0 o,Gx (show as.length<=1000000 by lia)]
  dsimp only
  cases s:P4 as hds with
  |true=>
   rw[s,iP rfl]at f;have y:lN (Q5 ↑2 hm am i p) S=.ok (.ret #[[.tup hds,.tup as],6]) S:=by unfold lN;exists 7,h.tuple,b.tuple
   rw[zD f,y];rfl
  |false=>
   rw[s,iN0 xF0]at f;rw[eF f];rfl
noncomputable abbrev D6(tt:MV)(h a:Nat)(k t n:T0):Rho:=[some tt,#[h],#[a],k,t,n]
def MH(ts:Tk)(hds as:R0):MV:=match PV ts hds as with
 |none=>.non
 |some k=>.int (k:Nat)
def L5:lo n (MH ts hds as):=by
 unfold MH;split
 .exact JS _
 .exact sI _ _
def Jx(l):MH ts hds as≠.loc l:=by unfold MH;split<;>simp
end
def AB{B:Sto}{m:Nat}(h:B[m]? =some o):(B++L)[m]? =some o:=by rw[á (gS.mp h).1];exact h
def Pw(h:S[n]? =some (.ins c fs))(a:c∈XNS)(c2):BL XNS c2 #[n,1] S=.ok (.val (.bl (decide (c=c2)))) S:=by unfold BL;dsimp only;rw[h];dsimp only;rw[iP a]
def L9(h:S[n]? =some (.ins c fs))(a:c∈XNS):Nj XNS #[n,1] S=.ok (.val (.bl true)) S:=by unfold Nj;dsimp only;rw[h];dsimp only;rw[iP a]
theorem M1(h:S[n]? =some (.ins c (NQ k)))(a:c∈XNS):Og XNS "place" #[n,1] S=.ok #[(k:Nat),5] S:=by unfold Og;dsimp only;rw[h];dsimp only;rw[iP a];rfl
noncomputable abbrev bq(c x:Str):MV:=.bl (decide (c=x))
abbrev K4(c:Str):List MV:=[bq c "TooGreat",bq c "NoTable",bq c "NoRule",bq c "NoRow"]
abbrev K8(c:Str):List MV:=[bq c "Twice",bq c "NoText",bq c "NoPlace",bq c "NotPlain"]
abbrev K12(c:Str):List MV:=[bq c "NoQuestion",bq c "Double",bq c "TooWide",bq c "Ring"]
abbrev KL(c:Str):List MV:=K4 c++K8 c++K12 c
noncomputable abbrev WL(w:Int):List MV:=(List.range 12).map λk=>.bl (decide (((k:Nat):Int)=w))
def cxv(b:rs.length=n)(a:F (yB rs S).1 (yB rs S).2=.ok (.val d) (S++T))(h:lo ↑5 d)(e: ∀l,d≠.loc l):jV n F rs S=.ok (.val d) S:=by unfold jV;rw[iP b,a];exact OR h e
theorem Y9(d:rs.length=n)(a:fs.all (λp=>VF p.2)=true)(b:F (yB rs S).1 (yB rs S).2=.exc c fs (S++T)):jV n F rs S=.exc c fs S:=by unfold jV;rw[iP d,b];dsimp only;rw[iP a,OR (JS _) (λl=>by simp)];rfl
noncomputable def xr(o:T0)(S:Sto):R Er:=match o with
 |some v=>.ok (.val v) S
 |none=>.exc "NoText" [] S
noncomputable def fr(o:T0)(S:Sto):R Fl:=match o with
 |some v=>.ok (.ret (.val v)) S
 |none=>.exc "NoText" [] S
def Gz{F:AY}(b:f [a] S=xF (F ρ S))(d:F ρ S=fr o S)(h: ∀v,o=some v->lo ↑5 v/\ ∀l,v≠.loc l):jV 1 f [.val a] S=xr o S:=by
 cases o with
 |some v=>exact cxv rfl (by rw[aN];show f [a] S=_;rw[b,d];rfl) (h v rfl).1 (h v rfl).2
 |none=>exact Y9 rfl rfl (by rw[aN];show f [a] S=_;rw[b,d];rfl)
def XX(p:Db):Option MV:=if gZ p=true then #[p,4]else if nL p=true then #[valOf p,0]else none
def IY(p:Db):Option (List Nat):=match p with
 |[]=>none
 |c::r=>if c=63/\gZ r=true then some r else none
def uH(p:Db):Option MV:=match p with
 |[]=>none
 |c::r=>if c=63 then(if gZ r=true then #[[.str DR,.str r],3]else none)else(XX (c::r)).map λv=>.tup [.str IS,v]
theorem Ha(h:nL p=true):p.length<=31:=by
 have a:=by unfold nL at h;simp only[aE]at h;exact ñ h.1.2
 unfold bare at a;split at a
 .rw[lC0];lia
 .lia
theorem GU(h:nL p=true):gZ p=false:=by
 rw[eq_false_iff];intro a;unfold gZ Dg at a;unfold nL GR at h;simp only[aE]at h a;have b:=ñ h.1.1
 cases p with
 |nil=>simp[bare]at b
 |cons c r=>
  have f:=ñ (ì.mp a.2 c mF0);rw[EY (λd e=>by injection e with e _;lia)]at h;have:=ñ (ì.mp h.2.1 c mF0)
  lia
section
theorem Px(h:p.length<=100000):jV 1 bW [.val (.str p)] S=xr (XX p) S:=by
 refine Gz (ρ:=[some _]) rfl ?_ ?_
 .have e:CZ [#[p,4]] S=.ok _ S:=rfl;unfold II XX;rw[zD e];by_cases d:gZ p=true
  .rw[iP d,yL (show bL [some _] S=.ok (.ret (.val (.str p))) S by unfold bL;simp? [Ac p h,d])];rfl
  .rw[iN0 d];rw[zD (show bL [some _] S=.ok _ S by unfold bL;simp? [Ac p h,d];rfl)];by_cases a:nL p=true
   .rw[iP a,yL (show bM [some _] S=.ok (.ret #[valOf p,5]) S by unfold bM;simp? [Gi p h,a,Y2 a (ç (Ha a) (by lia))])];rfl
   .rw[iN0 a];rw[Į]at a;rw[zD (show bM [some _] S=.ok _ S by unfold bM;simp? [Gi p h,a];rfl)];rfl
 .intro v b;unfold XX at b;split at b
  .cases b;exact⟨dS _ _,λl=>by simp⟩
  .split at b
   .cases b;exact⟨sI _ _,λl=>by simp⟩
   .cases b
theorem TU(c)(r)(S):Xc (.val (.str (c::r))) [.val (.str [63])] S=.ok (.val (.bl (decide (c=63)))) S:=by show R.ok (Er.val (.bl (decide (1<=(c::r).length)&&decide _))) S=_;rw[dT0 (by rw[lC0];lia)];simp
theorem TV(h:(c::r).length<=100000)(S):wU (.val (.str (c::r))) (some 1) none S=.ok (.val (.str r)) S:=by rw[cut_str (fits (by lia)),Y1]
theorem Py(h:p.length<=100000):jV 1 nF [.val (.str p)] S=xr ((IY p).map MV.str) S:=by
 refine Gz (ρ:=[some _]) rfl ?_ ?_
 .unfold LP
  cases p with
  |nil=>rfl
  |cons c r=>
   have e:r.length<=100000:=by rw[lC0]at h;lia
   unfold IY;dsimp only;by_cases b:c=63
   .by_cases a:gZ r=true
    .rw[iP ⟨b,a⟩];rw[zD (show jF [some _] S=.ok (.next [#[(c::r),4]]) S by unfold jF;simp? [cF,TU,TV h,Ac r e,a,dT0 b,ø,fT,iF])];unfold FR;simp? [TV h];rfl
    .rw[iN0 (λz=>a z.2)];rw[Į]at a;rw[eF (show jF [some _] S=.exc "NoText" [] S by unfold jF;simp? [cF,TU,TV h,Ac r e,a,dT0 b,ø,fT,iF];rfl)];rfl
   .rw[iN0 (λz=>b z.1)];rw[eF (show jF [some _] S=.exc "NoText" [] S by unfold jF;simp? [cF,TU,dF0 b];rfl)];rfl
 .intro v d
  cases a:IY p with
  |none=>rw[a]at d;cases d
  |some r=>rw[a]at d;cases d;exact⟨dS _ _,λl=>by simp⟩
def tup2(a b)(S):pH [.val a,.val b] S=.ok #[[a,b],6] S:=VE (by simp)
def M2(h:XX p=some v):lo n v/\ ∀l,v≠.loc l:=by
 unfold XX at h;split at h
 .cases h;exact⟨dS _ _,λl=>by simp⟩
 .split at h
  .cases h;exact⟨sI _ _,λl=>by simp⟩
  .cases h
def WG(h:uH p=some v):lo n v/\ ∀l,v≠.loc l:=by
 cases p with
 |nil=>cases h
 |cons c r=>
  unfold uH at h;dsimp only at h;split at h
  .split at h
   .cases h;exact⟨dU (kN λd a=>by
     rcases mC.mp a with rfl|a
     .exact dS _ _
     .rw[mS0.mp a];exact dS _ _),λl=>by simp⟩
   .cases h
  .cases hw:XX _ with
   |none=>rw[hw]at h;cases h
   |some w=>
    rw[hw]at h;cases h
    exact⟨dU (kN λd a=>by
     rcases mC.mp a with rfl|a
     .exact dS _ _
     .rw[mS0.mp a];exact(M2 hw).1),λl=>by simp⟩
def M3(h:p.length<=100000):jV 1 rQ [.val (.str p)] S=xr (uH p) S:=by
 refine Gz (ρ:=[some _]) rfl ?_ ?_
 .unfold LQ
  cases p with
  |nil=>
   rw[zD rfl];unfold sQ;simp? [Px h];rfl
  |cons c r=>
   unfold uH;dsimp only;have a:=Py (S:=S) h;unfold IY at a;dsimp only at a;have f:=Px (S:=S) h;by_cases b:c=63
   .rw[iP b];by_cases d:gZ r=true
    .rw[iP d];rw[iP ⟨b,d⟩]at a;rw[yL (show jG [some _] S=.ok (.ret #[[.str DR,.str r],6]) S by unfold jG;simp? [cF,TU,dT0 b,a,xr,Option.map_some,tup2])];rfl
    .rw[iN0 d];rw[iN0 (λz=>d z.2)]at a;rw[eF (show jG [some _] S=.exc "NoText" [] S by unfold jG;simp? [cF,TU,dT0 b,a,xr,Option.map_none];rfl)];rfl
   .rw[iN0 b];rw[zD (show jG [some _] S=.ok (.next [#[(c::r),4]]) S by unfold jG;simp? [cF,TU,dF0 b,fT,iF])];unfold sQ
    cases e:XX _ with
    |none=>
     rw[e]at f;simp? [f,xr];rfl
    |some v=>
     rw[e]at f;simp? [f,xr,tup2];rfl
 .exact λv e=>WG e
end
def rY(d:S[l]? =#[ds,2])(a b):wU #[l,1] a b S=.ok (.new (cU ds a b)) S:=by unfold wU;dsimp only;rw[kC d]
def Pz(c)(r:R0):cU (c::r) (some 1) none=r:=by unfold cU;simp[HT.sIx]
noncomputable def jY{α:Type}:List (Option α)->Option (List α)
 |[]=>some []
 |none::_=>none
 |some d::r=>(jY r).map λa=>d::a
theorem iT: ∀{os}{ds:List α},jY os=some ds->os=ds.map some
 |[],ds,h=>by cases h;rfl
 |none::r,ds,h=>by cases h
 |some d::r,ds,h=>by
  unfold jY at h
  cases a:jY r with
  |none=>rw[a]at h;cases h
  |some es=>rw[a]at h;cases h;rw[iT a];rfl
theorem EZ: ∀{os:List (Option α)},jY os=none->none∈os
 |[],h=>by cases h
 |none::r,_=>mF0
 |some d::r,h=>by
  unfold jY at h
  cases a:jY r with
  |none=>exact mO _ (EZ a)
  |some es=>rw[a]at h;cases h
noncomputable def lr(o:Option (List MV))(S:Sto):R (List MV):=match o with
 |some v=>.ok v S
 |none=>.exc "NoText" [] S
theorem WH{α:Type}(m)(f)(d:stay gs S): ∀(L:List α),(∀a∈L, ∃b,gf (m a) ρb S=.ok b S/\cf b S=.ok true S/\ef b S=xr (f a) S)->nY gf cf ef ρb gs (L.map m) S=lr (jY (L.map f)) S
 |[],_=>rfl
 |p::L,h=>by
  obtain⟨b,g,c,e⟩:=h p mF0;rw[è,è];unfold nY;rw[g,xO,cW,c,xO,cW,e]
  cases k:f p with
  |none=>rfl
  |some v=>
   unfold xr;rw[cW];unfold dR;rw[cW,iP d,WH m f d L λq j=>h q (mO _ j)];show _=lr ((jY _).map λi=>v::i) S;cases jY _<;>rfl
def uY(ps:Ch):Option MV:=match ps with
 |[]=>none
 |p::r=>if nL p=true then(jY (r.map uH)).map λa=>.tup [.int (valOf p),.tup a]else none
def rZ{β:Type}{f:β->Option α}{os:List β}(h:jY (os.map f)=some ds)(a:d∈ds): ∃x∈os,f x=some d:=by
 have:some d∈os.map f:=by rw[iT h];exact mM0.mpr ⟨d,a,rfl⟩
 exact mM0.mp this
def Qa(h:uY ps=some d):lo n d:=by
 cases ps with
 |nil=>cases h
 |cons p r=>
  unfold uY at h;dsimp only at h;split at h
  .cases b:jY _ with
   |none=>rw[b]at h;cases h
   |some tms=>
    rw[b]at h;cases h;refine dU (kN λd a=>?_);rcases mC.mp a with rfl|a
    .exact sI _ _
    .rw[mS0.mp a];refine dU (kN λd a=>?_);obtain⟨q,_,e⟩:=rZ b a;exact(WG e).1
  .cases h
def Vy(h:uY ps=#[l]):False:=by
 cases ps with
 |nil=>cases h
 |cons p r=>
  unfold uY at h;dsimp only at h;split at h
  .cases a:jY (r.map uH)with
   |none=>rw[a]at h;cases h
   |some tms=>rw[a]at h;cases h
  .cases h
section
theorem M4(s:S[l]? =#[ps.map MV.str,2])(y:ps.length<=10000)(h: ∀p∈ps,p.length<=100000):jV 1 rR [#[l,1]] S=xr (uY ps) S:=by
 refine Gz (ρ:=[#[l]]) rfl ?_ ?_
 .unfold LR;have a:=vL s;rw[lM0]at a
  cases ps with
  |nil=>
   rw[eF (fs:=[]) (S':=S) (show jH [#[l]] S=.exc "NoText" [] S by unfold jH;simp? [a];rfl)];rfl
  |cons p r=>
   have o:=h p mF0;have b:gL _ _ S=.ok _ S:=gQ s (Jv _ _);have t:decide ((((p::r).length:Nat):Int)=0)=false:=dF0 (by rw[lC0];lia);unfold uY;dsimp only;by_cases e:nL p=true
   .rw[iP e,zD (show jH [#[l]] S=.ok (.next [#[l]]) S by unfold jH;simp? [a,t,b,Gi p o,e,ø,fT,iF])];have m:=Px (S:=S) o;unfold XX at m;rw[iN0 (by rw[GU e];exact xF0),iP e]at m;have d:wU #[l,1] (some 1) none S=.ok (.new (r.map MV.str)) S:=by rw[rY s,è,Pz]
    have k:nY (xY 0) BB lP [none] [] (r.map MV.str) S=lr _ S:=WH MV.str uH (xZ _) r λq z=>⟨[#[q,4]],rfl,rfl,by unfold lP;simp? [M3 (h q (mO _ z))]⟩
    have i: ∀(ds:R0)(S:Sto),QS (.new ds) S=.ok ⟨ds,[]⟩ S:=λ_ _=>rfl;have n: ∀(ds:R0)(S:Sto),hW [.new ds] S=.ok _ S:=λ_ _=>rfl;have j:(r.map MV.str).length<1000000:=by rw[lM0];rw[lC0]at y;lia
    have f:vD 1 [] [some (MV.loc l)]=[none]:=rfl;unfold FS pX
    cases w:jY (r.map uH)with
    |none=>
     rw[w]at k;simp? [b,m,xr,d,i,j,f,k,lr];rfl
    |some tms=>
     rw[w]at k;simp? [b,m,xr,d,i,j,f,k,lr,n,tup2];rfl
   .rw[iN0 e];rw[Į]at e;rw[eF (fs:=[]) (S':=S) (show jH [#[l]] S=.exc "NoText" [] S by unfold jH;simp? [a,t,b,Gi p o,e,fT,iF];rfl)];rfl
 .exact λv u=>⟨Qa u,λl=>by rintro rfl;exact Vy u⟩
end
noncomputable def par(s:Db):List (List Nat)->List (List (List Nat))->List (List Nat)->List (List (List Nat))
 |[],D,c=>D++[c]
 |x::ps,D,c=>if x=s then par s ps (D++[c]) []else par s ps D (c++[x])
noncomputable abbrev mS(q:Ch):List MV:=q.map MV.str
theorem NF(s): ∀ ps  D  c ,Gk s ps (D.map mS) (mS c)=(par s ps D c).map mS
 |[],D,c=>by show D.map mS++[mS c]=(D++[c]).map mS;rw[ï];rfl
 |x::ps,D,c=>by
  unfold Gk par;split
  .rw[<-NF s ps _ [],ï];rfl
  .rw[<-NF s ps D _];unfold mS;rw[ï];rfl
theorem FA(s): ∀ ps  D  c ,(par s ps D c).length<=D.length+1+ps.length
 |[],D,c=>by show(D++[c]).length<=_;rw[lA];simp
 |x::ps,D,c=>by
  unfold par;rw[lC0];split
  .have:=FA s ps (D++[c]) [];rw[lA,lS]at this
   lia
  .have:=FA s ps D (c++[x])
   lia
theorem AC(s): ∀ ps  D  c , ∀q∈par s ps D c,q∈D\/(q.length<=c.length+ps.length/\ ∀p∈q,p∈c\/p∈ps)
 |[],D,c,q,hq=>by
  rcases ê.mp hq with h|h
  .exact .inl h
  .rw[mS0.mp h];exact .inr ⟨by simp,λp a=>.inl a⟩
 |x::ps,D,c,q,hq=>by
  unfold par at hq;rw[lC0];split at hq
  .rcases AC s ps _ [] q hq with h|⟨h,h'⟩
   .rcases ê.mp h with h|h
    .exact .inl h
    .rw[mS0.mp h];exact .inr ⟨by lia,λp a=>.inl a⟩
   .refine .inr ⟨by rw[ë]at h;lia,λp a=>?_⟩;rcases h' p a with z|z
    .simp at z
    .exact .inr (mO _ z)
  .rcases AC s ps D _ q hq with h|⟨h,h'⟩
   .exact .inl h
   .refine .inr ⟨by rw[lA,lS]at h;lia,λp a=>?_⟩;rcases h' p a with z|z
    .rcases ê.mp z with z|z
     .exact .inl z
     .rw[mS0.mp z];exact .inr mF0
    .exact .inr (mO _ z)
theorem NG(c): ∀x:List Nat,(cK c x).length=x.count c+1
 |[]=>rfl
 |a::x=>by
  have b:=NG c x;unfold cK;by_cases h:a=c
  .rw[iP h,lC0,b,h,List.count_cons_self]
  .rw[iN0 h,List.count_cons_of_ne h, <-b]
   cases hs:cK c x with
   |nil=>exact absurd hs (JX c x)
   |cons p r=>rfl
theorem Dl(c): ∀ x , ∀p∈cK c x,p.length<=x.length
 |[],p,h=>by rw[mS0.mp h];exact à _
 |a::x,p,h=>by
  have b:=Dl c x;rw[lC0];unfold cK at h;split at h
  .rcases mC.mp h with rfl|h
   .exact zero_le _
   .have:=b p h;lia
  .split at h
   .rename_i hs;exact absurd hs (JX c x)
   .rename_i q r hs;rw[hs]at b;rcases mC.mp h with rfl|h
    .have:=b q mF0;rw[lC0];lia
    .have:=b p (mO _ h);lia
def Vz(T:Db):Option (List MV×List MV):=match par [58] (cK 32 T) [] []with
 |[h,t]=>match jY (h.map λp=>(IY p).map MV.str),jY ((par [59] t [] []).map uY)with
  |some hs,some as=>some (hs,as)
  |_,_=>none
 |_=>none
def qr(ts:Tk)(T:Db)(S:Sto):R Er:=match Vz T with
 |none=>.exc "NoText" [] S
 |some (hs,as)=>match PV ts hs as with
  |none=>.ok #[[.tup hs,.tup as],6] S
  |some k=>.exc "NoQuestion" (NQ k) S
def uZ(h:IY p=some r):gZ r=true/\p=63::r:=by
 cases p with
 |nil=>cases h
 |cons c q=>
  unfold IY at h;dsimp only at h;split at h
  .rename_i a;cases h;exact⟨a.2,by rw[a.1]⟩
  .cases h
def IR(h:gZ r=true):r.length<=8:=by unfold gZ at h;simp only[aE]at h;have:=ñ h.1.2;omega
def M5(h:uH p=some d):pq d=true:=by
 have two: ∀a b:MV,pq a=true->pq b=true->pq _=true:=λa b j i=>Dj (λd e=>by
  rcases mC.mp e with rfl|e
  .exact j
  .rw[mS0.mp e];exact i) (by simp)
 cases p with
 |nil=>cases h
 |cons c r=>
  unfold uH at h;dsimp only at h;split at h
  .split at h
   .rename_i f;cases h;exact two _ _ (KQ ↑4) (KQ (ç (IR f) ↑4))
   .cases h
  .cases hw:XX _ with
   |none=>rw[hw]at h;cases h
   |some w=>
    rw[hw]at h;cases h;refine two _ _ (KQ ↑4) ?_;unfold XX at hw;split at hw
    .rename_i f;cases hw;exact KQ (ç (IR f) ↑4)
    .split at hw
     .cases hw;exact WC _
     .cases hw
def vA{os:List (Option α)}(h:jY os=some ds):ds.length=os.length:=by rw[iT h,lM0]
theorem M6(h:uY ps=some d)(e:ps.length<=1000):pq d=true:=by
 cases ps with
 |nil=>cases h
 |cons p r=>
  unfold uY at h;dsimp only at h;split at h
  .cases b:jY _ with
   |none=>rw[b]at h;cases h
   |some tms=>
    rw[b]at h;cases h;refine Dj (λd a=>?_) (by simp);rcases mC.mp a with rfl|a
    .exact WC _
    .rw[mS0.mp a];refine Dj (λd a=>?_) ?_
     .obtain⟨q,_,f⟩:=rZ b a;exact M5 f
     .rw[vA b,lM0];rw[lC0]at e;lia
  .cases h
def RB{α:Type}(b:Nat)(as:List α):List (MV×α):=(QN b as.length).zip as
def Dm(b)(as:List α):(RB b as).map (·.1)=QN b as.length:=by exact List.map_fst_zip (by rw[AA];exact à _)
def Do(b)(as:List α):(RB b as).map (·.2)=as:=by exact List.map_snd_zip (by rw[AA];exact à _)
def PX(h:p∈RB b as): ∃i a,as[i]? =some a/\p=(.loc (lc b i),a):=by
 unfold RB at h;obtain⟨i,hi⟩:=List.mem_iff_getElem?.mp h;rw[List.getElem?_zip_eq_some]at hi;obtain⟨d,f⟩:=hi;refine⟨i,p.2,f,?_⟩;unfold QN at d;rw[ü]at d;have j:=(gS.mp f).1;rw[List.getElem?_range j]at d;have:p.1=.loc (lc b i):=by cases e:p.1<;>rw[e]at d<;>simp at d ⊢;exact d.symm
 rw[<-this]
section
def Wa(j:ZS ts)(h:SqM S hm hds)(m:SqM S am as)(f: ∀d∈as,pq d=true)(n:as.length<=1000)(i: ∀d∈hds,pq d=true)(e:hds.length<=1000):
  jV 3 gM [#[ts.map tbl,6],.val hm,.val am] S=match PV ts hds as with
   |none=>.ok #[[.tup hds,.tup as],6] S
   |some k=>.exc "NoQuestion" (NQ k) S:=by
 have b:=Y8 j h m f n i e
 cases a:PV ts hds as with
 |none=>
  rw[a]at b;refine cxv rfl (by rw[aN];exact b) (dU (kN λd a=>?_)) (λl=>by simp);rcases mC.mp a with rfl|a
  .exact dU (kN λd a=>Po _ (Ĝ _) (i d a))
  .rw[mS0.mp a];exact dU (kN λd a=>Po _ (Ĝ _) (f d a))
 |some k=>
  rw[a]at b;exact Y9 rfl rfl (by rw[aN];exact b)
theorem Qb(hT:ZS ts)(hl:T.length<=50000)(hc:T.count 32<=800): ∃Z,yD [.tup (ts.map tbl),.str T] S=qr ts T (S++Z):=by
 obtain⟨P,Y⟩: ∃P,P=cK 32 T:=⟨_,rfl⟩
 have ak:P.length<=801:=by rw[Y,NG];lia
 have ae: ∀p∈P,p.length<=100000:=λp G=>by
  rw[Y]at G;have:=Dl 32 T p G
  lia
 have aa: ∀S,GK (.val (.str T)) [.val (.str [32])] S=.ok (.new (mS P)) S:=λS=>by show(if T.length<=100000 then R.ok (Er.new ((cK 32 T).map MV.str)) S else .no)=_;rw[iP (by lia),Y]
 obtain⟨f,c1,p1⟩:=Gq (S:=S) (B:=S++[.lst (mS P)]) (q:=↑5) (s:=[58]) (ps:=P) (rs:=[.new (mS P),.val (.str [58])]) rfl rfl (yP S _) (by rw[lA];lia) (by lia);rw[show Gk [58] P [] []=(par [58] P [] []).map mS from NF [58] P [] []]at p1;rw[show(S++[MO.lst (mS P)]).length=↑5+1 from by rw[lA];rfl]at c1;obtain⟨b,hb⟩: ∃b,b=(S++[MO.lst (mS P)]).length:=⟨_,rfl⟩
 have ag:b=↑5+1:=by rw[hb,lA];rfl
 rw[<-ag]at c1;obtain⟨J,t1⟩:=p1.app;obtain⟨H,hH⟩: ∃H,H=par [58] P [] []:=⟨_,rfl⟩
 rw[<-hH]at p1;have o1:=p1.out
 have aj:H.length<=900:=by
  have:=FA [58] P [] [];rw[hH];simp only[ë]at this
  lia
 have m: ∀q∈H,q.length<=801/\ ∀p∈q,p.length<=100000:=λq u=>by
  rw[hH]at u;rcases AC [58] P [] [] q u with z|⟨z,z'⟩
  .simp at z
  .refine⟨by simp only[ë]at z;lia,λp G=>?_⟩;rcases z' p G with y|y
   .simp at y
   .exact ae p y
 rw[<-hb,lM0]at o1;have af:zU kO [.tup (ts.map tbl),.str T]=[#[ts.map tbl,3],#[T,4],none,none,none]:=rfl;have e1:gV [#[ts.map tbl,3],#[T,4],none,none,none] S=.ok (.next [#[ts.map tbl,3],#[T,4],none,none,none]) S:=rfl;have e2:aH [#[ts.map tbl,3],#[T,4],none,none,none] S=.ok (.next [#[ts.map tbl,3],#[T,4],#[b+1],none,none]) f:=by unfold aH;exists 7,cF,aa,c1
 have D:=vL o1;rw[AA]at D;unfold yD lR;rw[af,zD e1,zD e2];have L:f=S++([.lst (mS P)]++J):=by rw[t1,aA]
 unfold qr Vz;rw[<-Y, <-hH];by_cases h2:H.length=2
 .obtain⟨h,t,W⟩: ∃h t,H=[h,t]:=by
   match H,h2 with
   |[h,t],_=>exact⟨h,t,rfl⟩
  rw[W]at p1 o1 m D;rw[W];dsimp only;have i0:=p1.inn 0 _ rfl;have i1:=p1.inn 1 _ rfl;rw[<-hb]at i0 i1;have C:f[b+1]? =#[[.loc (lc b 0),.loc (lc b 1)],2]:=o1;have e3:kX [#[ts.map tbl,3],#[T,4],#[b+1],none,none] f=.ok (.next [#[ts.map tbl,3],#[T,4],#[b+1],none,none]) f:=by unfold kX;exists 7,D,ne_int
  rw[zD e3];have A:nY (xY 0) oH cO [none] [(lc b 0,mS h)] (mS h) f=lr (jY (h.map λp=>(IY p).map MV.str)) f:=WH MV.str (λp=>(IY p).map MV.str) (bH i0) h λq u=>⟨[#[q,4]],rfl,rfl,by unfold cO;simp? [Py ((m h mF0).2 q u)]⟩
  have w:(mS h).length<1000000:=by have:=(m h mF0).1;rw[lM0];lia
  cases hh:jY (h.map λp=>(IY p).map MV.str)with
  |none=>
   rw[hh]at A;refine⟨[.lst (mS P)]++J,?_⟩;rw[eF (c:="NoText") (fs:=[]) (S':=f) (show kY [#[ts.map tbl,3],#[T,4],#[b+1],none,none] f=.exc "NoText" [] f by unfold kY pX;simp? [gQ C (show iU [MV.loc (lc b 0),.loc (lc b 1)] 0=#[lc b 0]from rfl),dH i0,w,show∀a b c,vD 1 [] [some a,some b,some c,none,none]=[none]from λ_ _ _=>rfl,A,lr];rfl)];rw[L];rfl
  |some hs=>
   rw[hh]at A;obtain⟨j,o⟩: ∃j,j=f++[MO.lst hs]:=⟨_,rfl⟩
   have e4:kY [#[ts.map tbl,3],#[T,4],#[b+1],none,none] f=.ok (.next [#[ts.map tbl,3],#[T,4],#[b+1],#[f.length],none]) j:=by unfold kY pX;simp? [gQ C (show iU [MV.loc (lc b 0),.loc (lc b 1)] 0=#[lc b 0]from rfl),dH i0,w,show∀a b c,vD 1 [] [some a,some b,some c,none,none]=[none]from λ_ _ _=>rfl,A,lr];rw[o]
   rw[zD e4];have ab:j[lc b 1]? =#[mS t,2]:=by rw[o,á (gS.mp i1).1];exact i1
   have ht:=m t (mO _ mF0);obtain⟨n,c3,K⟩:=Gq (S:=j) (B:=j) (q:=lc b 1) (s:=[59]) (ps:=t) (rs:=[#[lc b 1,1],.val (.str [59])]) rfl rfl ab (à _) (by lia);rw[show Gk [59] t [] []=(par [59] t [] []).map mS from NF [59] t [] []]at K;obtain⟨T3,t3⟩:=K.app;obtain⟨Q,hQ⟩: ∃Q,Q=par [59] t [] []:=⟨_,rfl⟩
   rw[<-hQ]at K;rw[<-hQ]
   have ai:Q.length<=900:=by
    have:=FA [59] t [] [];rw[hQ];simp only[ë]at this
    lia
   have I: ∀q∈Q,q.length<=801/\ ∀p∈q,p.length<=100000:=λq u=>by
    rw[hQ]at u;rcases AC [59] t [] [] q u with z|⟨z,z'⟩
    .simp at z
    .refine⟨by simp only[ë]at z;lia,λp G=>?_⟩;rcases z' p G with y|y
     .simp at y
     .exact ht.2 p y
   have X:=K.out;rw[lM0]at X
   have E:nY (xY 0) cP jN [none] [(j.length+1,QN j.length Q.length)] (QN j.length Q.length) n=lr (jY (Q.map uY)) n:=by
    have:=WH (gf:=xY 0) (cf:=cP) (ef:=jN) (ρb:=[none]) (λp:MV×List (List Nat)=>p.1) (λp=>uY p.2) (bH X) (RB j.length Q) λp G=>by obtain⟨i,a,hi,rfl⟩:=PX G;refine⟨[#[lc j.length i]],rfl,rfl,?_⟩;have M:=I a (ô hi);unfold jN;simp? [M4 (K.inn i (mS a) (by rw[ü,hi];rfl)) (ç M.1 ↑4) M.2]
    rw[Dm,show(RB j.length Q).map (λp=>uY p.2)=Q.map uY from by rw[show(λp:MV×List (List Nat)=>uY p.2)=uY∘(λp:MV×List (List Nat)=>p.2)from rfl, <-Ē,Do]]at this;exact this
   have F:(QN j.length Q.length).length<1000000:=by rw[AA];lia
   have O:j[b+1]? =#[[.loc (lc b 0),.loc (lc b 1)],2]:=by rw[o,á (gS.mp C).1];exact C
   have U:n=S++([.lst (mS P)]++J++[.lst hs]++T3):=by rw[t3,o,L];simp only[aA]
   cases M:jY (Q.map uY)with
   |none=>
    rw[M]at E;refine⟨[.lst (mS P)]++J++[.lst hs]++T3,?_⟩;rw[eF (c:="NoText") (fs:=[]) (S':=n) (show kZ [#[ts.map tbl,3],#[T,4],#[b+1],#[f.length],none] j=.exc "NoText" [] n by unfold kZ pX;simp? [gQ O (show iU [MV.loc (lc b 0),.loc (lc b 1)] 1=#[lc b 1]from rfl),c3,dH X,F,show∀a b c d,vD 1 [] [some a,some b,some c,some d,none]=[none]from λ_ _ _ _=>rfl,E,lr];rfl)];rw[U];rfl
   |some as=>
    rw[M]at E;refine⟨[.lst (mS P)]++J++[.lst hs]++T3++[.lst as],?_⟩;have e5:kZ [#[ts.map tbl,3],#[T,4],#[b+1],#[f.length],none] j=.ok (.next [#[ts.map tbl,3],#[T,4],#[b+1],#[f.length],#[n.length]]) (n++[.lst as]):=by unfold kZ pX;simp? [gQ O (show iU [MV.loc (lc b 0),.loc (lc b 1)] 1=#[lc b 1]from rfl),c3,dH X,F,show∀a b c d,vD 1 [] [some a,some b,some c,some d,none]=[none]from λ_ _ _ _=>rfl,E,lr]
    rw[zD e5];have s1:j[f.length]? =#[hs,2]:=by rw[o];exact yP _ _
    have s3:(n++[MO.lst as])[f.length]? =#[hs,2]:=by have w:=(gS.mp s1).1;have:=K.len;rw[á (by lia),K.old _ w];exact s1
    have v:=Wa (ts:=ts) (S:=n++[.lst as]) (hm:=.loc f.length) (am:=.loc n.length) (hds:=hs) (as:=as) hT (.inr ⟨_,rfl,s3⟩) (.inr ⟨_,rfl,yP _ _⟩) (λd N=>by
     obtain⟨q,u,e⟩:=rZ M N;exact M6 e (ç (I q u).1 ↑4)) (by rw[vA M,lM0];lia) (λd N=>by
     obtain⟨q,u,e⟩:=rZ hh N
     cases hr:IY q with
     |none=>rw[hr]at e;cases e
     |some r=>rw[hr]at e;cases e;exact KQ (ç (IR (uZ hr).1) (by decide))) (by
     have:=(m h mF0).1;rw[vA hh,lM0];lia)
    have ah:n++[MO.lst as]=S++([.lst (mS P)]++J++[.lst hs]++T3++[.lst as]):=by rw[U];simp only[aA]
    rw[<-ah];unfold rS;dsimp only
    cases N:PV ts hs as with
    |none=>rw[N]at v;simp? [v];rfl
    |some k=>rw[N]at v;simp? [v];rfl
 .have e3:kX [#[ts.map tbl,3],#[T,4],#[b+1],none,none] f=.exc "NoText" [] f:=by unfold kX;simp? [D,ne_int,dF0 (show¬((H.length:Nat):Int)=2 by lia)];rfl
  refine⟨[.lst (mS P)]++J,?_⟩;rw[eF e3,L]
  match H,h2 with
  |[],_=>rfl
  |[_],_=>rfl
  |_::_::_::_,_=>rfl
  |[_,_],h2=>exact absurd rfl h2
end
section
variable{x:Db}
theorem Xr(S)(k):QR (.val (.bl true)) S k=k S:=rfl
def M7:(λc=>decide (97<=c/\c<=122))=MG:=funext λc=>by unfold MG;rw[decide_and]
theorem Hb(q:Nat->Bool)(f: ∀c r S,cf (#[[c],4]::r) S=.ok (!q c) S)(b:ef=vJ 0)(a:ρb=[none]):xV (xY 0) cf ef ρb [] (x.map λc=>.str [c]) S=.ok ((x.filter λc=>!q c).map λc=>MV.str [c]) S:=by
 subst b a;have:=iS (gf:=xY 0) (ef:=vJ 0) (ρb:=[none]) (ds:=x.map λc=>MV.str [c]) (p:=λd=>match d with |.str [c]=>!q c|_=>false) (xZ S) λd e=>by obtain⟨c,_,rfl⟩:=mM0.mp e;exact⟨[some _],rfl,f c [] S,rfl⟩
 rw[this,List.filter_map];rfl
theorem WI(h:x.length<=100000):yC 1 bO [.val (.str x)] S=.ok (.val (.bl (gZ x))) S:=xL rfl (by
 show xF (qE [#[x,4]] S)=_;have b:=Hb (x:=x) (S:=S) (cf:=qC) (ef:=qD) (ρb:=vD 1 [] [#[x,4]]) MG (λc r S=>by show(JQ true (.val (.str [c])) (.val (.str abc)) S).bind bC=_;rw[show JQ true _ _ S=.ok _ S from rfl,Vu];rfl) rfl rfl;unfold qE uV gZ Dg;rw[M7, <-PR];have a:((x.filter λc=>!MG c).map λc=>MV.str [c]).isEmpty=(x.filter λc=>!MG c).isEmpty:=by cases x.filter λc=>!MG c<;>rfl
 by_cases d:1<=x.length
 .by_cases e:x.length<=8
  .simp? [len_str h,JG,lt_int,dT0 (show(0:Int)<x.length by lia),dT0 (show(x.length:Int)<9 by lia),dT0 (show(1:Int)<=x.length by lia),dT0 (show(x.length:Int)<=8 by lia),VZ,lM0,show(x.length<1000000)=True from eq_true (by lia),Xr,b,Vt,a,ģ];rfl
  .simp? [len_str h,JG,lt_int,dT0 (show(0:Int)<x.length by lia),dF0 (show¬(x.length:Int)<9 by lia),dF0 (show¬(x.length:Int)<=8 by lia),Bool.and_false,ĝ];rfl
 .simp? [len_str h,JG,lt_int,dF0 (show¬(0:Int)<x.length by lia),dF0 (show¬(1:Int)<=x.length by lia),ĝ];rfl)
noncomputable def P5(c:Nat):Bool:=decide (48<=c/\c<=57)
theorem Qc(h:x.length<=100000)(S):wU (.val (.str x)) none (some 1) S=.ok (.val (.str (x.take 1))) S:=by
 rw[cut_str (fits (by lia))];unfold cU
 cases x with
 |nil=>rfl
 |cons c r=>simp[HT.sIx]
theorem cut0(h:x.length<=100000)(S):wU (.val (.str x)) (some 0) none S=.ok (.val (.str x)) S:=by rw[cut_str (fits (by lia))];unfold cU;simp[HT.sIx]
theorem Xs(h:x.length<=100000):yC 1 bY [.val (.str x)] S=.ok (.val (.bl (nL x))) S:=xL rfl (by
 show xF (fK [#[x,4],none] S)=_;have s:=Ad x
 have k:dW [#[x,4],none] S=.ok (.next [#[x,4],#[bare x,4]]) S:=by
  unfold dW;rcases Pe x with⟨r,rfl⟩|hx
  .simp? [Qc h,eq_str,show(45::r).take 1=[45]from rfl,decide_true,show GE [.val (.bl true)] S=.ok #[1,5] S from rfl,TV h];rfl
  .rw[EY hx]
   simp? [Qc h,eq_str,dF0 (show¬x.take 1=[45]from λe=>by
    cases x with
    |nil=>cases e
    |cons c r=>
     rw[show(c::r).take 1=[c]from rfl]at e;injection e with e _
     exact hx r (by rw[e])),show GE [.val (.bl false)] S=.ok #[0,5] S from rfl,cut0 h]
 have n:=Hb (x:=bare x) (S:=S) (cf:=iO) (ef:=iQ) (ρb:=vD 1 [] [#[x,4],#[bare x,4]]) P5 (λc r S=>by
  show(JQ true (.val (.str [c])) (.val (.str [48,49,50,51,52,53,54,55,56,57])) S).bind bC=_
  have:JQ true (.val (.str [c])) (.val (.str [48,49,50,51,52,53,54,55,56,57])) S=.ok (.val (.bl (!P5 c))) S:=by
   have:=Pd c S;unfold P5;have e:JQ true (.val (.str [c])) (.val (.str [48,49,50,51,52,53,54,55,56,57])) S=.ok (.val (.bl (!decide (c∈[48,49,50,51,52,53,54,55,56,57])))) S:=rfl;have b:JQ false (.val (.str [c])) (.val (.str [48,49,50,51,52,53,54,55,56,57])) S=.ok (.val (.bl (decide (c∈[48,49,50,51,52,53,54,55,56,57])))) S:=rfl;rw[b]at this;injection this with this _
   injection this with this
   injection this with this
   rw[e,this]
  rw[this];rfl) rfl rfl
 unfold fK nL;rw[zD k];have m:((bare x).filter λc=>!P5 c).isEmpty=GR (bare x):=PR _ _;have i:(((bare x).filter λc=>!P5 c).map λc=>MV.str [c]).isEmpty=GR (bare x):=by rw[<-m];cases (bare x).filter λc=>!P5 c<;>rfl
 have d: ∀(ds:R0)(S:Sto),QL (.new ds) (.new []) S=.ok (.val (.bl (!ds.isEmpty))) S:=λds S=>by cases ds<;>rfl
 have a:(bare x).length<=100000:=by lia
 generalize t:bare x=y at *;by_cases p:1<=y.length
 .by_cases q:y.length<=30
  .have b:xI [#[x,4],#[y,4]] S=if GR y=true then .ok (.next [#[x,4],#[y,4]]) S else .ok (.ret (.val (.bl false))) S:=by unfold xI;simp? [len_str a,JG,lt_int,dT0 (show(0:Int)<y.length by lia),dT0 (show(y.length:Int)<31 by lia),VZ,lM0,show(y.length<1000000)=True from eq_true (by lia),n,d,i,ø,fT,iF];cases GR y<;>rfl
   rw[dT0 (show(1:Int)<=y.length by lia),dT0 (show(y.length:Int)<=30 by lia),ģ,ģ]
   cases j:GR y with
   |false=>rw[j,iN0 xF0]at b;rw[yL b];rfl
   |true=>
    rw[j,iP rfl]at b;rw[zD b,ģ];unfold qF
    cases y with
    |nil=>exact absurd p (by decide)
    |cons c r=>
     have f:gL (.val (.str (c::r))) #[0,5] S=.ok (.val (.str [c])) S:=ix_str (fits (by lia)) (Jv c r);have o:QL (.val (.str [c])) (.val (.str [48])) S=.ok (.val (.bl (!decide ([c]=[48])))) S:=OS (nW _ _ _);rw[show(c::r).take 1=[c]from rfl];simp? [f,o,eq_str];cases decide ([c]=[48])<;>cases decide (x=[48])<;>rfl
  .rw[dF0 (show¬(y.length:Int)<=30 by lia),Bool.and_false,ĝ];rw[yL (show xI [#[x,4],#[y,4]] S=.ok (.ret (.val (.bl false))) S by unfold xI;simp? [len_str a,JG,lt_int,dT0 (show(0:Int)<y.length by lia),dF0 (show¬(y.length:Int)<31 by lia),Ă])];rfl
 .rw[dF0 (show¬(1:Int)<=y.length by lia),ĝ,ĝ];rw[yL (show xI [#[x,4],#[y,4]] S=.ok (.ret (.val (.bl false))) S by unfold xI;simp? [len_str a,JG,lt_int,dF0 (show¬(0:Int)<y.length by lia),Ă,fT,iF])];rfl)
noncomputable def rO(o:T0):MV:=match o with
 |some d=>d
 |none=>.non
theorem Qd(h:x.length<=100000):yC 1 bP [.val (.str x)] S=.ok (.val (rO (uH x))) S:=by
 refine eZ rfl ?_ ?_ ?_
 .show xF (qG [#[x,4]] S)=_;unfold qG;have k:bZ [#[x,4]] S=.ok _ S:=rfl
  have b:XX x=none/\zM wY (zM wZ bZ) [#[x,4]] S=.ok (.ret (.val .non)) S\/ ∃v,XX x=some v/\zM wY (zM wZ bZ) [#[x,4]] S=.ok (.ret #[[.str IS,v],6]) S:=by
   unfold XX;by_cases a:gZ x=true
   .rw[iP a];refine .inr ⟨_,rfl,yL ?_⟩;unfold wY;simp? [WI h,a,tup2]
   .rw[iN0 a];rw[Į]at a;rw[zD (show wY [#[x,4]] S=.ok _ S by unfold wY;simp? [WI h,a];rfl)];by_cases f:nL x=true
    .rw[iP f];refine .inr ⟨_,rfl,yL ?_⟩;unfold wZ;simp? [Xs h,f,Y2 f (ç (Ha f) (by lia)),tup2]
    .rw[iN0 f];rw[Į]at f;refine .inl ⟨rfl,?_⟩;rw[zD (show wZ [#[x,4]] S=.ok _ S by unfold wZ;simp? [Xs h,f];rfl)];exact k
  cases x with
  |nil=>
   rw[zD rfl];rcases b with⟨_,e⟩|⟨v,e,_⟩
   .rw[e];rfl
   .rw[show XX []=none from rfl]at e;cases e
  |cons c r=>
   have i:r.length<=100000:=by rw[lC0]at h;lia
   unfold uH;dsimp only;by_cases j:c=63
   .subst j;rw[iP rfl];by_cases a:gZ r=true
    .rw[iP a,yL (show wC [#[(63::r),4]] S=.ok (.ret #[[.str DR,.str r],6]) S by unfold wC;simp? [Qc h,show(63::r).take 1=[63]from rfl,eq_str,decide_true,TV h,WI i,a,tup2])];rfl
    .rw[iN0 a];rw[Į]at a;rw[zD (show wC [some _] S=.ok _ S by unfold wC;simp? [Qc h,show(63::r).take 1=[63]from rfl,eq_str,decide_true,TV h,WI i,a];rfl)];rcases b with⟨_,e⟩|⟨v,e,_⟩
     .rw[e];rfl
     .exfalso;unfold XX at e;split at e
      .rename_i z;unfold gZ Dg at z;simp only[aE]at z;have:=ñ (ì.mp z.2 63 mF0)
       lia
      .split at e
       .rename_i z;unfold nL GR at z;rw[EY (x:=63::r) (λm e=>by injection e with e _;lia)]at z;simp only[aE]at z;have:=ñ (ì.mp z.2.1 63 mF0)
        lia
       .cases e
   .rw[iN0 j];rw[zD (show wC [#[(c::r),4]] S=.ok (.next [#[(c::r),4]]) S by unfold wC;simp? [Qc h,show(c::r).take 1=[c]from rfl,eq_str,dF0 (show¬[c]=[63]from λe=>j (by injection e)),fT,iF])];rcases b with⟨e,e'⟩|⟨v,e,e'⟩
    .rw[e',e];rfl
    .rw[e',e];rfl
 .cases i:uH x with
  |none=>exact JS _
  |some d=>exact(WG i).1
 .intro l
  cases i:uH x with
  |none=>simp[rO]
  |some d=>exact(WG (n:=0) i).2 l
end
theorem TX(ds:List α)(j:Nat):cU ds none (some  j )=ds.take j:=by
 unfold cU;rw[HT.sIx_nat,show HT.sIx ds.length 0 none=0 from rfl,List.drop_zero,Nat.sub_zero];by_cases h:j<=ds.length
 .rw[min_eq_left h]
 .rw[Nat.min_eq_right (by lia),ę (à _),ę (by lia)]
theorem TY(ds:List α)(j:Nat):cU ds (some  j ) none=ds.drop j:=by
 unfold cU;rw[HT.sIx_nat];by_cases h:j<=ds.length
 .rw[min_eq_left h,ę (by rw[ú];exact à _)]
 .rw[Nat.min_eq_right (by lia),List.drop_of_length_le (à _),List.drop_of_length_le (by lia),List.take_nil]
theorem PY(s): ∀ ps  D  c ,(par s ps D c).length=D.length+1+ps.countP λp=>decide (p=s)
 |[],D,c=>by show(D++[c]).length=_;rw[lA];simp
 |x::ps,D,c=>by
  unfold par;rw[List.countP_cons];split
  .rename_i h;rw[PY s ps _ [],lA,lS,dT0 h,iP rfl]
   lia
  .rename_i h;rw[PY s ps D _,dF0 h,iN0 xF0]
   lia
theorem Hc: ∀{ps}{d c h t},par s ps [d] c=[h,t]->h=d/\t=c++ps
 |[],d,c,h,t,e=>by
  have e:=e;injection e with b a
  injection a with a _
  exact⟨b.symm,by rw[aN];exact a.symm⟩
 |x::ps,d,c,h,t,e=>by
  unfold par at e;split at e
  .have:=PY s ps ([d]++[c]) [];rw[e]at this;simp at this
   lia
  .obtain⟨b,a⟩:=Hc e;exact⟨b,by rw[a,aA];rfl⟩
theorem Hd: ∀{ps c h t},par s ps [] c=[h,t]-> ∃h',h=c++h'/\ps=h'++s::t/\s∉h'
 |[],c,h,t,e=>by
  have e:=e;injection e with _ a
  cases a
 |x::ps,c,h,t,e=>by
  unfold par at e;split at e
  .rename_i d;obtain⟨b,a⟩:=Hc e;exact⟨[],by rw[aN];exact b,by rw[d,a];rfl,by simp⟩
  .rename_i d;obtain⟨h',b,a,f⟩:=Hd e;refine⟨x::h',by rw[b,aA];rfl,by rw[a];rfl,λz=>?_⟩;rcases mC.mp z with z|z
   .exact d z.symm
   .exact f z
abbrev tO(p:Db):MV:=rO (uH p)
noncomputable def Xt(g:List Nat->MV)(s:Db):List (List Nat)->List (List MV)->List MV->List (List MV)
 |[],D,c=>D++[c]
 |x::ps,D,c=>if x=s then Xt g s ps (D++[c]) []else Xt g s ps D (c++[g x])
theorem WJ(g)(s): ∀ ps  D  c ,Xt g s ps (D.map λq=>q.map g) (c.map g)=(par s ps D c).map λq=>q.map g
 |[],D,c=>by show _++[c.map g]=(D++[c]).map _;rw[ï];rfl
 |x::ps,D,c=>by
  unfold Xt par;split
  .rw[<-WJ g s ps _ [],ï];rfl
  .rw[<-WJ g s ps D _,ï];rfl
section
theorem WK: ∀ ps  D  c  S  x ,PtS B (D++[c]) S->D.length+c.length+ps.length<=10000->(∀p∈ps,p.length<=100000)->
  ∃e j,bA (xY 4) gP [] (ps.map MV.str) [a,b,c0,#[B.length+1],x,none,none] S=.ok (.next [a,b,c0,#[B.length+1],j,none,none]) e/\PtS B (Xt tO [59] ps D c) e
 |[],D,c,S,x,h,_,_=>⟨S,x,rfl,h⟩
 |y::ps,D,c,S,x,h,hz,hl=>by
  have r:(D++[c]).length=D.length+1:=by rw[lA];rfl
  rw[lC0]at hz;have f: ∀p∈ps,p.length<=100000:=λp s=>hl p (mO _ s);have g:xY 4 (.str y) [a,b,c0,#[B.length+1],x,none,none] S=.ok [a,b,c0,some _,#[y,4],none,none] S:=rfl;by_cases k:y=[59]
  .have d:=Pm h;obtain⟨e,j,n,o⟩:=WK ps (D++[c]) [] _ #[y,4] d (by rw[r];simp only[ë];lia) f;refine⟨e,j,?_,by unfold Xt;rw[iP k];exact o⟩;have u:GF #[B.length+1,1] [.new []] S=.ok (.val .non) ((S++[MO.lst []]).set (B.length+1) (MO.lst (QN B.length (D++[c]).length++[MV.loc ↑5]))):=by show QV #[B.length+1,1] (S++[.lst []]) (λt=>if t.length<sizeLine then some _ else none)=_;unfold QV;dsimp only;rw[á (by have:=h.len;lia),h.out];dsimp only;rw[iP (æ (by rw[AA];lia) (fits (à _)))]
   have q:gP [a,b,c0,#[B.length+1],#[y,4],none,none] S=.ok (.next [a,b,c0,#[B.length+1],#[y,4],none,none]) ((S++[MO.lst []]).set (B.length+1) (MO.lst (QN B.length (D++[c]).length++[MV.loc ↑5]))):=by unfold gP mT;exists 7,eq_str,dT0 k,cE h.out,show xU [] S=.ok (.new []) S from hX (by simp),u
   rw[è,yM g q (xZ _)];exact n
  .have d:=Pn h (tO y);obtain⟨e,j,n,o⟩:=WK ps D (c++[tO y]) _ #[y,4] d (by rw[lA,lS];lia) f;refine⟨e,j,?_,by unfold Xt;rw[iN0 k];exact o⟩;have i:=h.inn D.length c (by rw[â (à _),sub_self];rfl);have m:gL _ #[-1,5] S=.ok _ S:=gQ h.out (by rw[r,PN];exact Gn _ _);have q:gP [a,b,c0,#[B.length+1],#[y,4],none,none] S=.ok (.next [a,b,c0,#[B.length+1],#[y,4],none,none]) (S.set (lc B.length D.length) (.lst (c++[tO y]))):=by unfold gP mT;simp? [eq_str,dF0 k,fT,iF,m,cE i,Qd (hl y mF0),vZ i (by lia)]
   rw[è,yM g q (xZ _)];exact n
def vB(h:uH p=some d):(∃r,gZ r=true/\d=.tup [.str DR,.str r]/\p=63::r)\/(gZ p=true/\d=.tup [.str IS,.str p])\/(nL p=true/\d=.tup [.str IS,.int (valOf p)]):=by
 cases p with
 |nil=>cases h
 |cons c r=>
  unfold uH at h;dsimp only at h;split at h
  .rename_i b;split at h
   .rename_i a;cases h;exact .inl ⟨r,a,rfl,by rw[b]⟩
   .cases h
  .unfold XX at h;split at h
   .rename_i a;cases h;exact .inr (.inl ⟨a,rfl⟩)
   .split at h
    .rename_i a;cases h;exact .inr (.inr ⟨a,rfl⟩)
    .cases h
theorem WM(h:nL p=true):uH p=#[[.str IS,.int (valOf p)],3]:=by
 cases p with
 |nil=>exact absurd h (by decide)
 |cons c r=>
  have a:c≠63:=by
   rintro rfl;unfold nL GR at h;rw[EY (λb e=>by injection e with e _;lia)]at h;simp only[aE]at h;have:=ñ (ì.mp h.2.1 63 mF0)
   lia
  unfold uH;dsimp only;rw[iN0 a];unfold XX;rw[iN0 (by rw[GU h];exact xF0),iP h];rfl
theorem He: ∀(q:Ch),ME S zR .non (q.map tO)=some (q.map λp=>!(uH p).isSome)
 |[]=>rfl
 |p::q=>by
  rw[è];unfold ME;rw[He q]
  have e:eqv S zR (tO p) .non=some (!(uH p).isSome):=by
   unfold tO rO
   cases a:uH p with
   |none=>rfl
   |some d=>rcases vB a with⟨r,_,rfl,_⟩|⟨_,rfl⟩|⟨_,rfl⟩<;>rfl
  rw[e];rfl
theorem Qe{α:Type}(f): ∀q:List α,q.any (id∘λp=>!f p)= !q.all f
 |[]=>rfl
 |p::q=>by rw[List.any_cons,Ě,Qe f q];show(!f p || !q.all f)=_;cases f p<;>rfl
def M8{q:Ch}(b:S[l]? =#[q.map tO,2]):JQ false (.val .non) #[l,1] S=.ok (.val (.bl (!q.all λp=>(uH p).isSome))) S:=by
 show CA false (.val .non) _ S=_;have a:itemsOf S #[l,1]=some (q.map tO):=by unfold itemsOf;exact kC b
 unfold CA;rw[a];dsimp only;rw[He];dsimp only;rw[List.any_map];congr 3;exact Qe _ q
def Xu(a:S[l]? =#[ds,2]):pB #[l,1] (.new []) S=.ok (.val (.bl ds.isEmpty)) S:=by
 have e:SQ S #[l,1]=some (.ls ds):=by show(cJ S _).map Vw.ls=_;rw[kC a];rfl
 have q:HU S zR #[l,1] (.new [])=some ds.isEmpty:=by unfold HU;rw[e];cases ds<;>rfl
 unfold pB;rw[q]
theorem chk4(u:S[l]? =#[q.map tO,2]):fY [a,b,c0,d,x,#[l],none] S=if(uY q).isSome=true then .ok (.next [a,b,c0,d,x,#[l],none]) S else .ok (.ret (.val .non)) S:=by
 unfold fY BI
 cases q with
 |nil=>
  exists 7,Xu u
 |cons p r=>
  have s:pB _ (.new []) S=.ok (.val (.bl false)) S:=Xu u;have h:gL _ _ S=.ok (.val (tO p)) S:=gQ u (Jv _ _);have n:=M8 u
  cases j:(p::r).all λp=>(uH p).isSome with
  |false=>
   rw[j]at n
   have D:(uY (p::r)).isSome=false:=by
    show(if nL p=true then(jY (r.map uH)).map λf=>MV.tup [.int (valOf p),.tup f]else none).isSome=false;split
    .rename_i C;rw[Ě,WM C]at j
     cases m:jY (r.map uH)with
     |none=>rfl
     |some f=>
      exfalso;have:r.all (λp=>(uH p).isSome)=true:=ì.mpr λz B=>by have:uH z∈r.map uH:=mM0.mpr ⟨z,B,rfl⟩;rw[iT m]at this;obtain⟨y,_,e⟩:=mM0.mp this;rw[<-e];rfl
      rw[this]at j;exact absurd j (by simp)
    .rfl
   rw[D];exists 7,s,n,Ă,fT,iF
  |true=>
   rw[j]at n;rw[Ě,aE]at j;obtain⟨d,t⟩:=č.mp j.1
   have m:(jY (r.map uH)).isSome=true:=by
    cases m:jY (r.map uH)with
    |none=>
     obtain⟨z,B,e⟩:=mM0.mp (EZ m);have:=ì.mp j.2 z B;rw[e]at this;cases this
    |some _=>rfl
   obtain⟨f,m⟩:=č.mp m;have o:nL p=false->(uY (p::r)).isSome=false:=λz=>by show(if nL p=true then(jY (r.map uH)).map λf=>MV.tup [.int (valOf p),.tup f]else none).isSome=false;rw[iN0 (by rw[z];exact xF0)];rfl
   have v:nL p=true->(uY (p::r)).isSome=true:=λz=>by show(if nL p=true then(jY (r.map uH)).map λf=>MV.tup [.int (valOf p),.tup f]else none).isSome=true;rw[iP z,m];rfl
   have k: ∀x y:List Nat,QL (.val (.str x)) (.val (.str y)) S=.ok _ S:=λx y=>OS (nW _ _ _);have w:tO p=d:=by unfold tO rO;rw[t]
   rw[w]at h;rcases vB t with⟨y,_,rfl,rfl⟩|⟨hy,rfl⟩|⟨hy,rfl⟩
   .have A:nL (63::y)=false:=by rw[eq_false_iff];intro z;rw[WM z]at t;cases t
    rw[o A,iN0 xF0];simp? [s,n,h,ø,fT,iF,ix_tup (S:=S) (i:=0) (Jv _ _),k];rfl
   .have A:nL p=false:=by rw[eq_false_iff];intro z;rw[GU z]at hy;cases hy
    rw[o A,iN0 xF0];simp? [s,n,h,ø,fT,iF,ix_tup (S:=S) (i:=0) (d:=.str IS) (Jv _ _),ix_tup (S:=S) (ds:=[MV.str IS,.str p]) (i:=1) (d:=.str p) (by rfl),k];rfl
   .rw[v hy,iP rfl];simp? [s,n,h,ø,fT,iF,ix_tup (S:=S) (i:=0) (d:=.str IS) (Jv _ _),ix_tup (S:=S) (ds:=[MV.str IS,.int (valOf p)]) (i:=1) (by rfl),k];rfl
end
def Kn(T:Db):MV:=match Vz T with
 |none=>.non
 |some (hs,as)=>.tup [.tup hs,.tup as]
section
theorem Z4(b:S[l]? =#[mS P,2]):TD #[l,1] [.val (.str [58])] S=.ok (.val (.int ((P.countP λp=>decide (p=[58]):Nat)))) S:=by
 unfold TD;rw[kC b];dsimp only;have h: ∀x,x∈mS P->eR x=true/\(eqv S zR x (.str [58])).isSome=true:=λx a=>by obtain⟨y,_,rfl⟩:=mM0.mp a;exact⟨rfl,by rw[show zR=39+1 from rfl];rfl⟩
 rw[iP h];unfold Jq mS;rw[List.countP_map];congr 5;funext p;show(eqv S zR (.str p) (.str [58])).getD false=_;rw[show zR=39+1 from rfl,nW];rfl
theorem Xv: ∀{h},[58]∉h->QX S (.str [58]) (mS (h++[58]::t))=some h.length
 |[],_=>by show(eqv S zR _ _).bind _=_;rfl
 |p::h,hn=>by show(eqv S zR _ _).bind _=_;rw[show zR=39+1 from rfl,nW,dF0 (λe=>hn (by rw[e];exact mF0))];show(QX S _ (mS (h++[58]::t))).map _=_;rw[Xv λz=>hn (mO _ z)];rfl
def ix58(d:S[l]? =#[mS (h++[58]::t),2])(b:[58]∉h):SV #[l,1] [.val (.str [58])] S=.ok (.val (.int  h.length )) S:=by
 unfold SV;rw[kC d];dsimp only;have h: ∀x,x∈mS (h++[58]::t)->eR x=true/\(eqv S zR x (.str [58])).isSome=true:=λx a=>by obtain⟨y,_,rfl⟩:=mM0.mp a;exact⟨rfl,by rw[show zR=39+1 from rfl];rfl⟩
 rw[iP h,Xv b]
def Dp:MV->Bool
 |.tup [.str k,_]=>!decide (k=DR)
 |_=>true
def Hf(p):Dp (tO p)= !(IY p).isSome:=by
 unfold tO rO
 cases a:uH p with
 |none=>
  cases f:IY p with
  |none=>rfl
  |some r=>
   obtain⟨e,rfl⟩:=uZ f;unfold uH at a;dsimp only at a;rw[iP e]at a;cases a
 |some d=>
  rcases vB a with⟨r,e,rfl,rfl⟩|⟨e,rfl⟩|⟨e,rfl⟩
  .have:IY (63::r)=some r:=by unfold IY;dsimp only;rw[iP ⟨rfl,e⟩]
   rw[this];rfl
  .cases f:IY p with
   |none=>rfl
   |some r=>
    obtain⟨b,rfl⟩:=uZ f;unfold uH at a;dsimp only at a;rw[iP b]at a;cases a
  .cases f:IY p with
   |none=>rfl
   |some r=>
    obtain⟨b,rfl⟩:=uZ f;unfold uH at a;dsimp only at a;rw[iP b]at a;cases a
theorem Ai(i:stay gs S): ∀(L:List (MV×List (List Nat))) y ,(∀p∈L, ∃l,p.1=.loc l/\S[l]? =#[p.2.map tO,2])-> ∃f,bA (xY 5) fY gs (L.map (·.1)) [a,b,c0,d,x,y,none] S=if(L.all λp=>(uY p.2).isSome)=true then .ok (.next [a,b,c0,d,x,f,none]) S else .ok (.ret (.val .non)) S
 |[],y,_=>⟨y,rfl⟩
 |p::L,y,h=>by
  obtain⟨l,e,n⟩:=h p mF0;have c:=chk4 (a:=a) (b:=b) (c0:=c0) (d:=d) (x:=x) n;obtain⟨f,k⟩:=Ai i L _ λq m=>h q (mO _ m);have g:xY 5 p.1 [a,b,c0,d,x,y,none] S=.ok [a,b,c0,d,x,#[l],none] S:=by rw[e];rfl
  refine⟨f,?_⟩;rw[è,Ě]
  cases j:(uY p.2).isSome with
  |true=>
   rw[j]at c;rw[yM g c i,k,ģ]
  |false=>
   rw[j]at c;rw[Fk g c,ĝ,iN0 xF0]
end
theorem PZ{α:Type}(m)(f)(d:stay gs S): ∀(L:List α),(∀a∈L, ∃b,gf (m a) ρb S=.ok b S/\cf b S=.ok true S/\ef b S=.ok (.val (f a)) S)->xV gf cf ef ρb gs (L.map m) S=.ok (L.map f) S
 |[],_=>rfl
 |p::L,h=>by obtain⟨b,g,c,e⟩:=h p mF0;rw[è];unfold xV;rw[g,xO,cW,c,xO,cW,e,xO,cW];unfold dR;rw[cW,iP d,PZ m f d L λq i=>h q (mO _ i)];rfl
theorem WN{α:Type}{f:α->Option MV}{Q:List α}(h:jY (Q.map f)=some as):Q.map (λq=>rO (f q))=as:=by
 have e:=congrArg (List.map rO) (iT h);rw[Ē,Ē]at e;rw[show(λq=>rO (f q))=rO∘f from rfl,e]
 conv=>rhs;rw[<-List.map_id as]
 rfl
theorem Qf(ds)(S):QL (.new ds) (.new []) S=.ok (.val (.bl (!ds.isEmpty))) S:=by cases ds<;>rfl
def Hg(h:Vz T=some (hs,as)): ∃u t,par [58] (cK 32 T) [] []=[u,t]/\jY (u.map λp=>(IY p).map MV.str)=some hs/\jY ((par [59] t [] []).map uY)=some as:=by
 unfold Vz at h;split at h
 .rename_i u t e;split at h
  .rename_i a b d f;cases h;exact⟨u,t,e,d,f⟩
  .cases h
 .cases h
def WO:lo n (Kn T)/\ ∀l,Kn T≠.loc l:=by
 unfold Kn
 cases h:Vz T with
 |none=>exact⟨JS _,λl=>by simp⟩
 |some p=>
  obtain⟨u,t,_,f,i⟩:=Hg h;refine⟨dU (kN λd a=>?_),λl=>by simp⟩;rcases mC.mp a with rfl|a
  .refine dU (kN λd a=>?_);obtain⟨q,_,e⟩:=rZ f a
   cases b:IY q with
   |none=>rw[b]at e;cases e
   |some r=>rw[b]at e;cases e;exact dS _ _
  .rw[mS0.mp a];refine dU (kN λd a=>?_);obtain⟨q,_,e⟩:=rZ i a;exact Qa e
section
def M9(hl:T.length<=50000)(hc:T.count 32<=800):yC 1 rX [.new (mS (cK 32 T))] S=.ok (.val (Kn T)) S:=by
 obtain⟨P,hP⟩: ∃P,P=cK 32 T:=⟨_,rfl⟩
 have ao:P.length<=801:=by rw[hP,NG];omega
 have Y: ∀p∈P,p.length<=100000:=λp o=>by rw[hP]at o;have:=Dl 32 T p o;omega
 rw[<-hP];have B:(S++[MO.lst (mS P)])[↑5]? =#[mS P,2]:=yP _ _
 suffices h: ∃Z,rW [#[↑5],none,none,none,none,none,none] (S++[.lst (mS P)])=.ok (.ret (.val (Kn T))) (S++[.lst (mS P)]++Z) by
  obtain⟨Z,h⟩:=h;rw[aA]at h;refine nV (T:=[.lst (mS P)]++Z) rfl ?_ ?_ ?_
  .show xF (rW [#[↑5],none,none,none,none,none,none] (S++[.lst (mS P)]))=_;rw[h];rfl
  .exact WO.1
  .exact(WO (n:=0)).2
 obtain⟨k,ab⟩: ∃k,k=S++[MO.lst (mS P)]:=⟨_,rfl⟩
 rw[<-ab]at B;rw[<-ab];obtain⟨q,hq⟩: ∃q,q=S.length:=⟨_,rfl⟩
 rw[<-hq]at B;rw[<-hq];have J:=Z4 B;have X:(par [58] P [] []).length=(P.countP λp=>decide (p=[58]))+1:=(PY [58] P [] []).trans (Nat.add_comm _ _);unfold rW Kn Vz;rw[<-hP];by_cases O:(par [58] P [] []).length=2
 .obtain⟨h,t,ae⟩: ∃h t,par [58] P [] []=[h,t]:=by
   match hH:par [58] P [] [],O with
   |[h,t],_=>exact⟨h,t,rfl⟩
  rw[ae];dsimp only;obtain⟨h',e1,v,ak⟩:=Hd ae;rw[Ġ]at e1;subst e1;have hk:(P.countP λp=>decide (p=[58]))=1:=Nat.succ.inj (X.symm.trans O);rw[hk]at J;have aq: ∀p∈h,p.length<=100000:=λp o=>Y p (by rw[v];exact ÿ _ o);have F: ∀p∈t,p.length<=100000:=λp o=>Y p (by rw[v];exact î _ (mO _ o));have ax:h.length+1+t.length<=801:=by rw[v,lA,lC0]at ao;omega
  have f1:cZ [#[q],none,none,none,none,none,none] k=.ok (.next [#[q],none,none,none,none,none,none]) k:=by unfold cZ;exists 7,cE B,J,ne_int
  have f2:tX [#[q],none,none,none,none,none,none] k=.ok (.next [#[q],#[(h.length:Nat),0],none,none,none,none,none]) k:=by unfold tX;exists 7,cE B,ix58 (by rw[<-v];exact B) ak
  have aw:wU #[q,1] none (some ((h.length:Nat):Int)) k=.ok (.new (mS h)) k:=by rw[rY B,TX,v];unfold mS;rw[ï,List.take_append_of_le_length (by rw[lM0];exact à _),ę (by rw[lM0];exact à _)]
  have ar: ∀Z,wU #[q,1] (some ((h.length:Nat)+1:Int)) none (k++Z)=.ok (.new (mS t)) (k++Z):=λZ=>by rw[rY (AB B),show((h.length:Nat)+1:Int)=((h.length+1:Nat):Int)from by omega,TY,v];unfold mS;rw[ï,è,show(h.map MV.str++MV.str [58]::t.map MV.str)=(h.map MV.str++[MV.str [58]])++t.map MV.str from by simp,List.drop_append_of_le_length (by rw[lA,lM0];exact à _),List.drop_of_length_le (by rw[lA,lM0];exact à _),Ġ]
  have aa: ∀(ds:R0)(S:Sto),QS (.new ds) S=.ok ⟨ds,[]⟩ S:=λ_ _=>rfl;have ai:xV (xY 0) BG mQ [none] [] (mS h) k=.ok (h.map tO) k:=PZ MV.str tO (xZ _) h λp o=>⟨[#[p,4]],rfl,rfl,by unfold mQ;exists 7,Qd (aq p o)⟩
  have ag:(mS h).length<1000000:=by rw[lM0];omega
  have f3:tY [#[q],#[(h.length:Nat),0],none,none,none,none,none] k=.ok (.next [#[q],#[(h.length:Nat),0],#[k.length],none,none,none,none]) (k++[.lst (h.map tO)]):=by unfold tY;exists 7,aw,aa,ag,show∀a b,vD 1 [] [some a,some b,none,none,none,none,none]=[none]from λ_ _=>rfl,ai
  have l1:(k++[MO.lst (h.map tO)])[k.length]? =#[h.map tO,2]:=yP _ _;obtain⟨j,C⟩: ∃j,j=k++[MO.lst (h.map tO)]:=⟨_,rfl⟩
  rw[<-C]at f3 l1
  have af:xV (xY 0) mR BH [none] [(k.length,h.map tO)] (h.map tO) j=.ok ((h.map tO).filter Dp) j:=iS (p:=Dp) (bH l1) λd hd=>by
   obtain⟨p,_,rfl⟩:=mM0.mp hd;refine⟨[some (tO p)],rfl,?_,rfl⟩;unfold mR tO rO
   cases o:uH p with
   |none=>rfl
   |some d=>
    have ah: ∀x y:List Nat,QL (.val (.str x)) (.val (.str y)) j=.ok (.val (.bl (!decide (x=y)))) j:=λx y=>OS (nW _ _ _);rcases vB o with⟨r,_,rfl,_⟩|⟨_,rfl⟩|⟨_,rfl⟩
    all_goals
     exists 7,show∀ds,JP #[ds,6] (.val .non) j=.ok (.val (.bl false)) j from λ_=>rfl,ix_tup (S:=j) (i:=0) (Jv _ _),ah,fT,iF
  have w:(h.map tO).length<1000000:=by rw[lM0];omega
  rw[zD f1,zD f2,zD f3]
  cases N:jY (h.map λp=>(IY p).map MV.str)with
  |none=>
   have A:((h.map tO).filter Dp).isEmpty=false:=by
    obtain⟨p,o,e⟩:=mM0.mp (EZ N)
    have hm:tO p∈(h.map tO).filter Dp:=List.mem_filter.mpr ⟨mM0.mpr ⟨p,o,rfl⟩,by
     rw[Hf]
     cases K:IY p with
     |none=>rfl
     |some r=>rw[K]at e;cases e⟩
    cases hf:(h.map tO).filter Dp with
    |nil=>rw[hf]at hm;cases hm
    |cons _ _=>rfl
   refine⟨[.lst (h.map tO)],?_⟩;rw[<-C];exact yL (by unfold fZ;simp? [dH l1,w,show∀a b c,vD 1 [] [some a,some b,some c,none,none,none,none]=[none]from λ_ _ _=>rfl,af,Qf,A,Ă])
  |some hs=>
   have A:(h.map tO).filter Dp=[]:=List.filter_eq_nil_iff.mpr λd hd=>by
    obtain⟨p,o,rfl⟩:=mM0.mp hd;rw[Hf]
    cases K:IY p with
    |some r=>simp
    |none=>
     have:(none:T0)∈h.map λp=>(IY p).map MV.str:=mM0.mpr ⟨p,o,by rw[K];rfl⟩;rw[iT N]at this;simp at this
   have f4:fZ [#[q],#[(h.length:Nat),0],#[k.length],none,none,none,none] j=.ok (.next [#[q],#[(h.length:Nat),0],#[k.length],none,none,none,none]) j:=by unfold fZ;simp? [dH l1,w,show∀a b c,vD 1 [] [some a,some b,some c,none,none,none,none]=[none]from λ_ _ _=>rfl,af,Qf,A];rfl
   have f5:tZ [#[q],#[(h.length:Nat),0],#[k.length],none,none,none,none] j=.ok (.next [#[q],#[(h.length:Nat),0],#[k.length],#[j.length+1],none,none,none]) (j++[.lst []]++[.lst [.loc j.length]]):=by unfold tZ;simp? [show xU [] j=.ok (.new []) j from hX (by simp),show xU [.new []] j=.ok (.new [.loc j.length]) (j++[.lst []])from hX (by simp)];rw[lA];rfl
   have p0:PtS j ([]++[[]]) (j++[.lst []]++[.lst [.loc j.length]]):=by
    refine⟨by simp,?_,λi p hi=>?_,λl hl=>?_⟩
    .have:=yP (j++[MO.lst []]) (.lst [.loc j.length]);rw[lA]at this;exact this
    .match i,hi with
     |0,hi=>
      cases hi;show(j++[MO.lst []]++[.lst [.loc j.length]])[j.length]? =_;simp
     |i+1,hi=>simp at hi
    .rw[aA,á hl]
   obtain⟨s,G,lp,p3⟩:=WK (a:=#[q]) (b:=#[(h.length:Nat),0]) (c0:=#[k.length]) t [] [] _ none p0 (by simp only[ë];omega) F;rw[show Xt tO [59] t [] []=(par [59] t [] []).map λq=>q.map tO from WJ tO [59] t [] []]at p3;obtain⟨Q,hQ⟩: ∃Q,Q=par [59] t [] []:=⟨_,rfl⟩
   rw[<-hQ]at p3;rw[<-hQ];have ay:Q.length<=900:=by have:=FA [59] t [] [];rw[hQ];simp only[ë]at this;omega
   have f6:uA [#[q],#[(h.length:Nat),0],#[k.length],#[j.length+1],none,none,none] (j++[.lst []]++[.lst [.loc j.length]])=.ok (.next [#[q],#[(h.length:Nat),0],#[k.length],#[j.length+1],G,none,none]) s:=by unfold uA;have:=ar ([.lst (h.map tO)]++[.lst []]++[.lst [.loc j.length]]);rw[show k++([MO.lst (h.map tO)]++[.lst []]++[.lst [.loc j.length]])=j++[.lst []]++[.lst [.loc j.length]]from by rw[C];simp only[aA]]at this;simp? [add_int,this,aa];exact lp
   obtain⟨T3,t3⟩:=p3.app;have L:=p3.out;rw[lM0]at L;have E: ∀i a,Q[i]? =some a->s[lc j.length i]? =#[a.map tO,2]:=λi a hi=>p3.inn i (a.map tO) (by rw[ü,hi];rfl);obtain⟨y',M⟩:=Ai (a:=#[q]) (b:=#[(h.length:Nat),0]) (c0:=#[k.length]) (d:=#[j.length+1]) (x:=G) (bH L) (RB j.length Q) none λp o=>by obtain⟨i,a,hi,rfl⟩:=PX o;exact⟨_,rfl,E i a hi⟩
   rw[Dm]at M;rw[zD f4,zD f5,zD f6];have av:(RB j.length Q).all (λp=>(uY p.2).isSome)=Q.all λq=>(uY q).isSome:=by have:=congrArg (λl:List (List (List Nat))=>l.all λq=>(uY q).isSome) (Do j.length Q);simp only[List.all_map]at this;exact this
   rw[av]at M;have I:s=k++([.lst (h.map tO)]++T3):=by rw[t3,C,aA]
   cases ha:jY (Q.map uY)with
   |none=>
    have u:(Q.all λq=>(uY q).isSome)=false:=by obtain⟨z,hz,e⟩:=mM0.mp (EZ ha);rw[eq_false_iff];intro N;have:=ì.mp N z hz;rw[e]at this;cases this
    rw[u,iN0 xF0]at M;refine⟨[.lst (h.map tO)]++T3,?_⟩;rw[<-I];exact yL (by unfold iA;simp? [dH L];exact M)
   |some as=>
    have u:(Q.all λq=>(uY q).isSome)=true:=ì.mpr λz hz=>by have:uY z∈Q.map uY:=mM0.mpr ⟨z,hz,rfl⟩;rw[iT ha]at this;obtain⟨y,_,e⟩:=mM0.mp this;rw[<-e];rfl
    rw[u,iP rfl]at M;have f7:iA [#[q],#[(h.length:Nat),0],#[k.length],#[j.length+1],G,none,none] s=.ok (.next [#[q],#[(h.length:Nat),0],#[k.length],#[j.length+1],G,y',none]) s:=by unfold iA;simp? [dH L];exact M
    have au:xV (xY 0) mU dN [none] [(j.length+1,QN j.length Q.length)] (QN j.length Q.length) s=.ok as s:=by
     have:=PZ (gf:=xY 0) (cf:=mU) (ef:=dN) (ρb:=[none]) (λp:MV×List (List Nat)=>p.1) (λp=>rO (uY p.2)) (bH L) (RB j.length Q) λp o=>by
      obtain⟨i,a,hi,rfl⟩:=PX o;refine⟨[#[lc j.length i]],rfl,rfl,?_⟩;have hs:=E i a hi;have m:=ì.mp u a (ô hi)
      cases a with
      |nil=>cases m
      |cons z r=>
       have U:nL z=true:=by
        cases hz:nL z with
        |true=>rfl
        |false=>
         have:uY (z::r)=none:=by unfold uY;dsimp only;rw[iN0 (by rw[hz];exact xF0)]
         rw[this]at m;cases m
       have D:uY (z::r)=(jY (r.map uH)).map λH=>MV.tup [.int (valOf z),.tup H]:=by unfold uY;dsimp only;rw[iP U]
       rw[D]at m
       cases ho:jY (r.map uH)with
       |none=>rw[ho]at m;cases m
       |some H=>
        have F:tO z=.tup [.str IS,.int (valOf z)]:=by unfold tO;rw[WM U];rfl
        rw[è,F]at hs;have ht:r.map tO=H:=WN ho;rw[ht]at hs;unfold dN;simp? [gQ hs (Jv _ _),ix_tup (S:=s) (ds:=[MV.str IS,.int (valOf z)]) (i:=1) (d:=.int (valOf z)) (by rfl),rY hs,Pz,show∀(ds:R0)(S:Sto),hW [.new ds] S=.ok #[ds,6] S from λ_ _=>rfl,tup2,D,ho];rfl
     rw[Dm,show(RB j.length Q).map (λp=>rO (uY p.2))=as from by rw[<-WN ha,show(λp:MV×List (List Nat)=>rO (uY p.2))=(λq=>rO (uY q))∘(λp:MV×List (List Nat)=>p.2)from rfl, <-Ē,Do]]at this;exact this
    have W:(QN j.length Q.length).length<1000000:=by rw[AA];omega
    have f8:uB [#[q],#[(h.length:Nat),0],#[k.length],#[j.length+1],G,y',none] s=.ok (.next [#[q],#[(h.length:Nat),0],#[k.length],#[j.length+1],G,y',#[s.length]]) (s++[.lst as]):=by unfold uB;simp? [dH L,W,show∀a b c d e f,vD 1 [] [some a,some b,some c,some d,e,f,none]=[none]from λ_ _ _ _ _ _=>rfl,au]
    have l3:(s++[MO.lst as])[k.length]? =#[h.map tO,2]:=by rw[I,aA,â (à _),sub_self];rfl
    have aj:xV (MU 2 (yR (xY 0) (yR (xY 1) nB))) mV mW [none,none] [(k.length,h.map tO)] (h.map tO) (s++[.lst as])=.ok hs (s++[.lst as]):=by
     have:=PZ (gf:=MU 2 (yR (xY 0) (yR (xY 1) nB))) (cf:=mV) (ef:=mW) (ρb:=[none,none]) tO (λp=>rO ((IY p).map MV.str)) (bH l3) h λp o=>by
      cases K:IY p with
      |none=>
       have:(none:T0)∈h.map λp=>(IY p).map MV.str:=mM0.mpr ⟨p,o,by rw[K];rfl⟩;rw[iT N]at this;simp at this
      |some r=>
       obtain⟨hn,rfl⟩:=uZ K;have:tO (63::r)=.tup [.str DR,.str r]:=by unfold tO uH;dsimp only;rw[iP rfl,iP hn];rfl
       rw[this];exact⟨[#[DR,4],#[r,4]],rfl,rfl,rfl⟩
     rw[WN N]at this;exact this
    have f9:uC [#[q],#[(h.length:Nat),0],#[k.length],#[j.length+1],G,y',#[s.length]] (s++[.lst as])=.ok (.ret #[[.tup hs,.tup as],6]) (s++[.lst as]):=by have tp:hW [#[s.length,1]] (s++[.lst as])=.ok #[as,6] (s++[.lst as]):=SqM.tuple (.inr ⟨_,rfl,yP _ _⟩);unfold uC;simp? [dH l3,w,show∀a b c d e f g,vD 2 [] [some a,some b,some c,some d,e,f,some g]=[none,none]from λ_ _ _ _ _ _ _=>rfl,aj,show∀(ds:R0)(S:Sto),hW [.new ds] S=.ok #[ds,6] S from λ_ _=>rfl,tp,tup2]
    refine⟨[.lst (h.map tO)]++T3++[.lst as],?_⟩;rw[zD f7,zD f8,f9,I];simp only[aA]
 .refine⟨[],?_⟩;rw[aN];have hk:(P.countP λp=>decide (p=[58]))≠1:=λe=>O (X.trans (congrArg Nat.succ e));rw[yL (show cZ [#[q],none,none,none,none,none,none] k=.ok (.ret (.val .non)) k by unfold cZ;simp? [cE B,J,ne_int,dF0 (show¬(((P.countP λp=>decide (p=[58])):Nat):Int)=1 by omega),Ă])]
  match par [58] P [] [],O with
  |[],_=>rfl
  |[_],_=>rfl
  |_::_::_::_,_=>rfl
  |[_,_],O=>exact absurd rfl O
end
theorem Qg: ∀ n  a ,a.length=n->(∀c∈a,48<=c/\c<=57)->PySem.NumText.digitsVal a<10 ^ n
 |0,a,h,_=>by rw[List.length_eq_zero_iff.mp h];decide
 |n+1,a,h,hc=>by
  rcases List.eq_nil_or_concat a with rfl|⟨L,c,rfl⟩
  .cases h
  .rw[List.concat_eq_append]at h hc ⊢;rw[lA,lS]at h;have e:=Qg n L (by lia) λd b=>hc d (ÿ _ b);have:=hc c (î _ mF0);rw[Ae];omega
def Hi(h:gZ x=true):Nm x:=by unfold gZ Dg at h;simp only[aE]at h;have b:=ñ h.1.1;have d:=ñ h.1.2;exact⟨by omega,by omega,λc a=>ñ (ì.mp h.2 c a)⟩
def N1(h:nL x=true):Vl (.int (valOf x)):=by
 refine Pl ?_;have a:=h;unfold nL GR at a;simp only[aE]at a;have j:=ñ a.1.2;have e:=λc f=>ñ (ì.mp a.2.1 c f);have d:=Qg _ _ rfl e;have b:_ ^ (bare x).length<=10 ^ 30:=Nat.pow_le_pow_right ↑4 (by omega);have i:(valOf x).natAbs=PySem.NumText.digitsVal (bare x):=by unfold valOf bare;split<;>simp
 rw[i];exact æ d b
def N2(h:uH p=some d):GQ d:=by
 rcases vB h with⟨r,hn,rfl,_⟩|⟨hn,rfl⟩|⟨hn,rfl⟩
 .exact .inl ⟨r,Hi hn,rfl⟩
 .exact .inr ⟨_,WF.mp (show Vo (.str p)=true from NC.mpr (Hi hn)),rfl⟩
 .exact .inr ⟨_,N1 hn,rfl⟩
def tm_D(h:GQ d):Pr d=true:=by
 rcases h with⟨x,hx,rfl⟩|⟨v,hv,rfl⟩
 .show(if MV.str DR=.str DR then O9 _ else _)=true;rw[iP rfl];exact NC.mpr hx
 .show(if MV.str IS=.str DR then O9 v else if MV.str IS=.str IS then Vo v else false)=true;rw[iN0 (by simp[DR]),iP rfl];exact WF.mpr hv
def zAK(a:MV):Prop:= ∃(t:Int)(tms:R0),a=.tup [.int t,.tup tms]/\tms.length<=900/\ ∀d∈tms,GQ d
theorem Z5(h:uY ps=some d)(b:ps.length<=900):zAK d:=by
 cases ps with
 |nil=>cases h
 |cons p r=>
  unfold uY at h;dsimp only at h;split at h
  .cases a:jY _ with
   |none=>rw[a]at h;cases h
   |some tms=>
    rw[a]at h;cases h;refine⟨_,tms,rfl,?_,λd f=>?_⟩
    .rw[vA a,lM0];rw[lC0]at b;lia
    .obtain⟨q,_,e⟩:=rZ a f;exact N2 e
  .cases h
theorem TZ: ∀ a ,(∀d∈a,GQ d)->xV (MU 2 (yR (xY 0) (yR (xY 1) nB))) cA fL [none,none] [] a S=.ok ((a.filterMap vn).map MV.str) S
 |[],_=>rfl
 |d::a,h=>by
  have b:=TZ (S:=S) a λe f=>h e (mO _ f);unfold xV;rcases h d mF0 with⟨x,hx,rfl⟩|⟨v,hv,rfl⟩
  .rw[show MU 2 _ _ [none,none] S=.ok [some _,some _] S from rfl,xO,cW];rw[show cA [some _,some _] S=.ok true S from rfl,xO,cW];rw[show fL [some _,some _] S=.ok _ S from rfl,xO,cW];unfold dR;rw[cW,iP (xZ _),b,ĕ];rfl
  .rw[show MU 2 _ _ [none,none] S=.ok [some _,some v] S from rfl,xO,cW];rw[show cA [some _,some v] S=.ok false S from rfl,xO,cW,iN0 xF0,iP (xZ _),b,ĕ];have:vn (.tup [.str IS,v])=none:=by cases v<;>simp[vn,IS,DR]
   rw[this]
noncomputable abbrev W8(tt qv hv a:MV)(l:Nat)(k t m:T0):Rho:=[some tt,some qv,some hv,some a,#[l],k,t,m]
def UA(P)(a):rB (P++[a])=rB P++(LW a).filterMap vn:=by unfold rB;simp
section
theorem Hj(N:ZS ts)(H: ∀d∈as,zAK d)(G:as.length<=900): ∀ o P ,as=P++o->(rB P).length<=900 * P.length-> ∀ Z  l  k t m ,(S++Z)[l]? =#[(rB P).map MV.str,2]->
  ∃(r:Sto)(v:Nat)(k' t' F:T0),(BK ts o P.length=none->(S++r)[v]? =#[(rB as).map MV.str,2])/\bA (xY 5) bQ [] ((List.range' P.length o.length).map λk=>MV.int (k:Nat)) (W8 ↑2 qv hv (.tup as) l k t m) (S++Z)=
   match BK ts o P.length with
   |none=>.ok (.next (W8 (.tup (ts.map tbl)) qv hv (.tup as) v k' t' F)) (S++r)
   |some j=>.ok (.ret (.val (.int  j ))) (S++r)
 |[],P,e,_,Z,l,k,t,m,hS=>⟨Z,l,k,t,m,λ_=>by rw[e,aN];exact hS,rfl⟩
 |d::o,P,e,hn,Z,l,k,t,m,hS=>by
  have f:as[P.length]? =some d:=by rw[e,â (à _),sub_self];rfl
  have D:iU as (P.length:Nat)=some d:=by unfold iU QK;rw[iP (by lia),iP (by have:=(gS.mp f).1;omega)];exact f
  obtain⟨i,a,rfl,A,q⟩:=H d (ô f);rw[lC0,range'_succ,è];have g:xY 5 (.int (P.length:Nat)) (W8 ↑2 qv hv (.tup as) l k t m) (S++Z)=.ok (W8 ↑2 qv hv (.tup as) l #[(P.length:Nat),0] t m) (S++Z):=rfl;have J:fM (W8 ↑2 qv hv (.tup as) l #[(P.length:Nat),0] t m) (S++Z)=.ok (.next (W8 ↑2 qv hv (.tup as) l #[(P.length:Nat),0] #[i,0] #[a,3])) (S++Z):=by unfold fM;exists 7,ix_tup (S:=S++Z) D
  have h:kS [#[ts.map tbl,6]] (S++Z)=.ok #[(ts.length:Nat),5] (S++Z):=by rw[gY,lM0]
  have w:fN (W8 ↑2 qv hv (.tup as) l #[(P.length:Nat),0] #[i,0] #[a,3]) (S++Z)=if Km ts (.tup [.int i,.tup a])=true then .ok (.next (W8 ↑2 qv hv (.tup as) l #[(P.length:Nat),0] #[i,0] #[a,3])) (S++Z)else .ok (.ret #[(P.length:Nat),5]) (S++Z):=by
   have b:Km ts (.tup [.int i,.tup a])=Rb ts i (.tup a):=rfl;unfold fN;by_cases hi:0<=i/\i<ts.length
   .obtain⟨p,B,E,_⟩:=Pt (ts:=ts) hi.1 hi.2;have u:a.all Pr=true:=ì.mpr λd f=>tm_D (q d f);have n:Km ts (.tup [.int i,.tup a])=decide ((a.length:Int)=p.1):=by rw[b];unfold Rb;rw[iP hi,B];show(decide ((a.length:Int)=p.1)&&a.all Pr)=_;rw[u,Bool.and_true]
    rw[n];simp? [JG,le_int,lt_int,gY,lM0,dT0 hi.1,dT0 hi.2,ø,fT,iF,ix_tup (S:=S++Z) E,show tbl p=.tup [.int p.1,.int p.2]from rfl,ix_tup (S:=S++Z) (ds:=[MV.int p.1,.int p.2]) (i:=0) (d:=.int p.1) (Jv _ _),ne_int];cases decide ((a.length:Int)=p.1)<;>rfl
   .have n:Km ts (.tup [.int i,.tup a])=false:=by rw[b];unfold Rb;rw[iN0 hi]
    rw[n,iN0 xF0];by_cases y:0<=i
    .simp? [JG,le_int,lt_int,h,dT0 y,dF0 (λz=>hi ⟨y,z⟩),Ă,fT,iF]
    .simp? [JG,le_int,lt_int,h,dF0 y,Ă,fT,iF]
  unfold BK
  cases f:Km ts (.tup [.int i,.tup a])with
  |false=>
   rw[f,iN0 xF0]at w;refine⟨Z,l,k,t,m,λz=>(by rw[iN0 xF0]at z;cases z),?_⟩;rw[iN0 xF0];refine Fk g ?_;unfold bQ;rw[zD J,yL w]
  |true=>
   rw[f,iP rfl]at w
   have L:(rB P).length<=900 * 900:=by
    have:P.length<=900:=by rw[e,lA]at G;lia
    lia
   have C:((a.filterMap vn).map MV.str).length<=900:=by rw[lM0];exact ç (List.length_filterMap_le _ _) A
   have s:yH #[l,1] (.new ((a.filterMap vn).map MV.str)) (S++Z)=.ok (.new ((rB (P++[.tup [.int i,.tup a]])).map MV.str)) (S++Z):=by rw[UA,ï];exact lF (vM hS) rfl (fits (show((rB P).map MV.str).length+((a.filterMap vn).map MV.str).length<=1000000 by rw[lM0 (as:=rB P)];lia))
   have M:fO (W8 ↑2 qv hv (.tup as) l #[(P.length:Nat),0] #[i,0] #[a,3]) (S++Z)=.ok (.next (W8 ↑2 qv hv (.tup as) (S++Z).length #[(P.length:Nat),0] #[i,0] #[a,3])) (S++Z++[.lst ((rB (P++[.tup [.int i,.tup a]])).map MV.str)]):=by unfold fO;exists 7,IQ,show(a.length<1000000)=True from eq_true (by omega),TZ a q,s
   obtain⟨r,v,k',t',F,I,K⟩:=Hj N H G o (P++[.tup [.int i,.tup a]]) (by rw[e,aA];rfl) (by
    rw[UA,lA,lA,lS];rw[lM0]at C;show _+(a.filterMap vn).length<=_
    lia) _ (S++Z).length #[(P.length:Nat),0] #[i,0] #[a,3] (by rw[<-aA];exact yP _ _)
   rw[lA,lS]at I K;refine⟨r,v,k',t',F,λz=>I (by rw[iP rfl]at z;exact z),?_⟩;rw[iP rfl];rw[yM g (show bQ _ (S++Z)=.ok _ _ by unfold bQ;rw[zD J,zD w,M]) (xZ _),aA];exact K
theorem Z6(b:S[l]? =#[(rB as).map MV.str,2])(hw:w.length<=1000):JQ true (.val (.str w)) #[l,1] S=.ok (.val (.bl (!Bg as (.str w)))) S:=by
 have a:itemsOf S #[l,1]=some ((rB as).map MV.str):=by unfold itemsOf;exact kC b
 rw[Xn true (KQ hw) a (λy=>by simp)];rfl
theorem Wb{a:Ch}(L:ZS ts)(H: ∀d∈as,zAK d)(J:1<=as.length)(G:as.length<=900)(hw: ∀w∈a,w.length<=1000)(N:a.length<=900):yC 2 oW [#[ts.map tbl,6],#[[.tup (a.map MV.str),.tup as],6]] S=.ok (.val (MH ts (a.map MV.str) as)) S:=by
 suffices h: ∃Z,oV [#[ts.map tbl,3],#[[.tup (a.map MV.str),.tup as],3],none,none,none,none,none,none] S=.ok (.ret (.val (MH ts (a.map MV.str) as))) (S++Z) by obtain⟨Z,h⟩:=h;refine nV (T:=Z) rfl ?_ L5 Jx;show xF (oV [#[ts.map tbl,3],#[[.tup (a.map MV.str),.tup as],3],none,none,none,none,none,none] S)=_;rw[h];rfl
 obtain⟨qv,i⟩: ∃qv,qv=MV.tup [.tup (a.map MV.str),.tup as]:=⟨_,rfl⟩
 have C:DI [#[ts.map tbl,3],some qv,none,none,none,none,none,none] S=.ok (.next [#[ts.map tbl,3],some qv,#[a.map MV.str,3],#[as,3],none,none,none,none]) S:=by rw[i];rfl
 have D:qH [#[ts.map tbl,3],some qv,#[a.map MV.str,3],#[as,3],none,none,none,none] S=.ok (.next (W8 ↑2 qv (.tup (a.map MV.str)) (.tup as) ↑5 none none none)) (S++[.lst []]):=by unfold qH;exists 7,show xU [] S=.ok (.new []) S from hX (by simp)
 obtain⟨Z,l,k,t,m,A,n⟩:=Hj (S:=S) (qv:=qv) (hv:=.tup (a.map MV.str)) L H G as [] rfl (by simp[rB]) [.lst []] ↑5 none none none (yP _ _);rw[show([]:R0).length=0 from rfl]at A n;have B: ∀S:Sto,eP [#[((as.length:Nat):Int),5]] S=.ok ⟨(List.range' 0 as.length).map λk=>.int (k:Nat),[]⟩ S:=λS=>by rw[lG (by lia),Ĥ,List.range_eq_range']
 rw[<-i];unfold oV MH PV;rw[zD C,zD D]
 cases y:BK ts as 0 with
 |some j=>
  rw[y]at n;refine⟨Z,?_⟩;exact yL (by unfold eB;simp? [gY,B];exact n)
 |none=>
  rw[y]at n;have M:=A y;have E:eB (W8 ↑2 qv (.tup (a.map MV.str)) (.tup as) ↑5 none none none) (S++[.lst []])=.ok (.next (W8 ↑2 qv (.tup (a.map MV.str)) (.tup as) l k t m)) (S++Z):=by unfold eB;simp? [gY,B];exact n
  rw[zD E];refine⟨Z,?_⟩;have f:LN [#[a.map MV.str,6]] (S++Z)=.ok #[(diff a:Nat),5] (S++Z):=Ah (.inl rfl) (by lia);have I:=Vv a
  have o:qI (W8 ↑2 qv (.tup (a.map MV.str)) (.tup as) l k t m) (S++Z)=if(decide (as.length<=4)&&(decide (a.length<=4)&&decide (diff a=a.length)))=true then .ok (.next (W8 ↑2 qv (.tup (a.map MV.str)) (.tup as) l k t m)) (S++Z)else .ok (.ret #[(as.length:Nat),5]) (S++Z):=by
   unfold qI;by_cases b:as.length<=4
   .by_cases e:a.length<=4
    .by_cases z:diff a=a.length
     .simp? [gY,lM0,gt_int,lt_int,f,dF0 (show¬(4:Int)<(as.length:Nat) by lia),dF0 (show¬(4:Int)<(a.length:Nat) by lia),dF0 (show¬((diff a:Nat):Int)<(a.length:Nat) by lia),dT0 b,dT0 e,dT0 z,fT,iF];rfl
     .simp? [gY,lM0,gt_int,lt_int,f,dF0 (show¬(4:Int)<(as.length:Nat) by lia),dF0 (show¬(4:Int)<(a.length:Nat) by lia),dT0 (show((diff a:Nat):Int)<(a.length:Nat) by lia),dT0 b,dT0 e,dF0 z,fT,iF];rfl
    .simp? [gY,lM0,gt_int,lt_int,dF0 (show¬(4:Int)<(as.length:Nat) by lia),dT0 (show(4:Int)<(a.length:Nat) by lia),dT0 b,dF0 e,fT,iF];rfl
   .simp? [gY,lM0,gt_int,lt_int,dT0 (show(4:Int)<(as.length:Nat) by lia),dF0 b];rfl
  have s:xV (xY 0) fP uW [none,#[l]] [] (a.map MV.str) (S++Z)=.ok ((a.map MV.str).filter λd=>!Bg as d) (S++Z):=iS (p:=λd=>!Bg as d) (xZ _) λd F=>by obtain⟨w,r,rfl⟩:=mM0.mp F;refine⟨[#[w,4],#[l]],rfl,?_,rfl⟩;unfold fP;exists 7,Z6 M (hw w r)
  have u:(a.map MV.str).length<1000000:=by rw[lM0];lia
  have q:qK (W8 ↑2 qv (.tup (a.map MV.str)) (.tup as) l k t m) (S++Z)=if(a.map MV.str).all (Bg as)=true then .ok (.next (W8 ↑2 qv (.tup (a.map MV.str)) (.tup as) l k t m)) (S++Z)else .ok (.ret #[(as.length:Nat),5]) (S++Z):=by unfold qK;simp? [IQ,u,show vD 1 [4] (W8 ↑2 qv (.tup (a.map MV.str)) (.tup as) l k t m)=[none,#[l]]from rfl,s,Qf,PR,gY];cases (a.map MV.str).all (Bg as)<;>rfl
  have K:DL (W8 ↑2 qv (.tup (a.map MV.str)) (.tup as) l k t m) (S++Z)=.ok (.ret (.val .non)) (S++Z):=rfl;have v:P4 as (a.map MV.str)=((decide (as.length<=4)&&(decide (a.length<=4)&&decide (diff a=a.length)))&&(a.map MV.str).all (Bg as)):=by unfold P4 Y7 cnt;rw[strs_map,dT0 J,lM0];dsimp only;cases decide (as.length<=4)<;>cases decide (a.length<=4)<;>cases decide (diff a=a.length)<;>cases (a.map MV.str).all (Bg as)<;>rfl
  dsimp only;rw[v]
  cases b:decide (as.length<=4)&&_ with
  |false=>
   rw[b,iN0 xF0]at o;rw[yL o];rfl
  |true=>
   rw[b,iP rfl]at o;rw[zD o]
   cases e:(a.map MV.str).all (Bg as)with
   |false=>
    rw[e,iN0 xF0]at q;rw[yL q];rfl
   |true=>
    rw[e,iP rfl]at q;rw[zD q,K];rfl
end
theorem Qh(S)(a b:MO):(S++[a,b])[↑5+1]? =some b:=by rw[â (by lia),show ↑5+1 - ↑5=1 by lia];rfl
def N3(a b c d)(S):xU [.val a,.val b,.val c,.val d] S=.ok (.new [a,b,c,d]) S:=hX (by simp)
theorem QA{B:Sto}(h:B.length=n):(B++L)[n+i]? =L[i]? :=by rw[â (by lia),h,Nat.add_sub_cancel_left]
theorem kinds_ok(h:S[n]? =some (.ins c fs))(f:c∈XNS):yC 1 aZ [#[n,1]] S=.ok (.new (KL c)) S:=by
 have H: ∀(L:Sto)(d:Str),BL XNS d #[n,1] (S++L)=.ok (.val (.bl (decide (c=d)))) (S++L):=λL d=>Pw (AB h) f d;have s: ∀d:Str,BL XNS d #[n,1] S=.ok (.val (.bl (decide (c=d)))) S:=λd=>Pw h f d;have k: ∀a,(S++[a]).length=↑5+1:=λa=>by rw[lA];rfl
 have r: ∀a b,(S++[a,b]).length=↑5+2:=λa b=>by rw[lA];rfl
 have m:pZ [#[n],none] S=.ok (.next [#[n],#[↑5]]) (S++[.lst (K4 c)]):=by unfold pZ;exists 7,s,N3
 have q:yH #[↑5,1] (.new (K8 c)) (S++[.lst (K4 c)])=.ok (.new (K4 c++K8 c)) (S++[.lst (K4 c)]):=lF (vM (yP _ _)) rfl (fits (show 4+4<=1000000 by decide));have u:qA [#[n],#[↑5]] (S++[.lst (K4 c)])=.ok (.next [#[n],#[↑5+1]]) (S++[.lst (K4 c),.lst (K4 c++K8 c)]):=by unfold qA;simp? [H,N3,q,k,aA];rfl
 have o:yH #[↑5+1,1] (.new (K12 c)) _=.ok (.new (KL c)) (S++[.lst (K4 c),.lst (K4 c++K8 c)]):=lF (vM (Qh _ _ _)) rfl (fits (show 8+4<=1000000 by decide));have p:qB [#[n],#[↑5+1]] (S++[.lst (K4 c),.lst (K4 c++K8 c)])=.ok (.next [#[n],#[↑5+2]]) (S++[.lst (K4 c),.lst (K4 c++K8 c),.lst (KL c)]):=by unfold qB;simp? [H,N3,o,r];rw[aA];rfl
 have t: ∀T,DF [#[n],#[↑5+2]] T=.ok (.ret #[↑5+2,1]) T:=λT=>rfl;refine DQ (T:=[.lst (K4 c),.lst (K4 c++K8 c),.lst (KL c)]) (as:=[.loc n]) rfl rfl ?_ (.inr ⟨↑5+2,rfl,by lia,QA (i:=2) rfl⟩) (kN λe j=>?_)
 .show xF (vX [#[n],none] S)=_;unfold vX;rw[zD m,zD u,zD p,t];rfl
 .simp only[KL,K4,K8,K12,List.cons_append,Ġ,mC,nM,or_false]at j;rcases j with rfl|rfl|rfl|rfl|rfl|rfl|rfl|rfl|rfl|rfl|rfl|rfl<;>exact LL _ _
def Z7(f:S[l]? =#[ds,2])(b: ∀d∈ds,pq d=true/\KM d<40):pB #[l,1] (.new ds) S=.ok (.val (.bl true)) S:=by
 have e:SQ S #[l,1]=some (.ls ds):=by show(cJ S _).map Vw.ls=_;rw[kC f];rfl
 have q:HU S zR #[l,1] (.new ds)=some true:=by unfold HU;rw[e];show(if ds.length=ds.length then(IX (eqv S 40) ds ds).map λbs=>bs.all id else some false)=_;rw[iP rfl,PQ λd a=>eqv_refl 40 (b d a).1 (b d a).2];show some ((ds.map λ_=>true).all id)=_;rw[TR]
 unfold pB;rw[q]
theorem Wc(h:pq d=true)(a:KM d<40):pB (.val d) (.val d) S=.ok (.val (.bl true)) S:=VD (eqv_refl _ h (by unfold zR;lia))
def Z8: ∀d∈WL w++[.bl true],pq d=true/\KM d<40:=λd a=>by
 have: ∃b,d=.bl b:=by
  rcases ê.mp a with a|a
  .obtain⟨i,_,rfl⟩:=mM0.mp a;exact⟨_,rfl⟩
  .rw[mS0.mp a];exact⟨_,rfl⟩
 obtain⟨b,rfl⟩:=this;exact⟨Y5 b,by simp[KM]⟩
theorem N4(b:cf=uJ)(a:ef=dJ pB (vJ 0) (vJ 1)):xV (xY 0) cf ef [none,#[w,0]] [] ((List.range 12).map λk=>MV.int (k:Nat)) S=.ok (WL w) S:=by subst b a;rw[uS (F:=λd=>match d with |.int i=>.bl (decide (i=w))|_=>.non) (xZ _) λd e=>by obtain⟨i,_,rfl⟩:=mM0.mp e;refine⟨[some _,some _],rfl,rfl,?_⟩;exists 7,rfl];rfl
noncomputable abbrev RR(tt th pl:MV)(wh:Int)(k t e:T0):Rho:=[some tt,some th,#[wh,0],some pl,k,t,e]
section
variable{c:Str}{fs:List (Str×MV)}
theorem WP(d:c∈XNS)(t:KL c=WL wh)(B:jV 2 yD [.val tt,.val th] (S++[.lst []])=.exc c fs (S++[.lst []]))
  (hp:wh=8/\(∃k:Nat,fs=NQ k/\pl=.int k)\/wh=5/\pl=.int 0):yC 4 wI [.val tt,.val th,#[wh,5],.val pl] S=.ok (.val (.bl true)) S:=by
 have q:(S++[MO.lst []]).length=↑5+1:=by rw[lA];rfl
 have y: ∀a,(S++[MO.lst [],a]).length=↑5+2:=λa=>by rw[lA];rfl
 have e:pq pl=true/\KM pl<40/\ ∀S,bF [.val pl,.val (.typ "bool")] S=.ok (.val (.bl false)) S:=by
  rcases hp with⟨_,k,_,rfl⟩|⟨_,rfl⟩
  .exact⟨WC _,by simp[KM],λ_=>rfl⟩
  .exact⟨WC _,by simp[KM],λ_=>rfl⟩
 have r:fR (RR tt th pl wh none none none) S=.ok (.next (RR tt th pl wh #[↑5] none none)) (S++[.lst []]):=by unfold fR;exists 7,rfl
 have C:uX (RR tt th pl wh #[↑5] none none) (S++[.lst []])=.ok (.next (RR tt th pl wh #[↑5] (some pl) none)) (S++[.lst []]):=rfl;have n:(S++[MO.lst [],.ins c fs])[↑5+1]? =some (.ins c fs):=QA (i:=1) rfl;have u:yH (.new (KL c)) (.new [.bl true]) (S++[.lst [],.ins c fs])=.ok (.new (KL c++[.bl true])) (S++[.lst [],.ins c fs]):=lF rfl rfl (fits (show 12+1<=1000000 by decide));have o:dY (RR tt th pl wh #[↑5] (some pl) #[↑5+1]) (S++[.lst [],.ins c fs])=.ok (.next (RR tt th pl wh #[↑5+2] (some pl) #[↑5+1])) (S++[.lst [],.ins c fs,.lst (KL c++[.bl true])]):=by unfold dY;simp? [kinds_ok n d,L9 n d,u,y];rw[aA];rfl
 generalize m:S++[.lst [],.ins c fs,.lst (KL c++[.bl true])]=S3 at o;have h:S3[↑5+1]? =some (.ins c fs):=by rw[<-m];exact QA (i:=1) rfl
 have b:S3[↑5+2]? =#[KL c++[.bl true],2]:=by rw[<-m];exact QA (i:=2) rfl
 have z:dZ (RR tt th pl wh #[↑5+2] (some pl) #[↑5+1]) S3=.ok (.next (RR tt th pl wh #[↑5+2] (some pl) #[↑5+1])) S3:=by
  unfold dZ;rcases hp with⟨rfl,k,rfl,rfl⟩|⟨rfl,rfl⟩
  .simp? [eq_int,decide_true,M1 h d]
  .exists 7,dF0 (show¬(5:Int)=8 by decide),fT,iF
 have v:fQ (RR tt th pl wh #[↑5] (some pl) #[↑5+1]) (S++[.lst [],.ins c fs])=.ok (.next (RR tt th pl wh #[↑5+2] (some pl) #[↑5+1])) S3:=by unfold fQ;rw[zD o,z]
 have s:fS (RR tt th pl wh #[↑5] (some pl) none) (S++[.lst []])=.ok (.next (RR tt th pl wh #[↑5+2] (some pl) none)) S3:=by have D: ∀p:Sto,yJ (vJ 0) (yJ (vJ 1) wJ) (RR tt th pl wh #[↑5] (some pl) none) p=.ok [.val tt,.val th] p:=λ_=>rfl;unfold fS HJ;rw[D,xO,cW,B];unfold Co;dsimp only;rw[iP d,q,aA];rw[show [MO.lst []]++[MO.ins c fs]=[.lst [],.ins c fs]from rfl];simp only[List.set_cons_zero,List.set_cons_succ];rw[v];rfl
 rw[t]at b;have f:yH (.new (WL wh)) (.new [.bl true]) S3=.ok (.new (WL wh++[.bl true])) S3:=lF rfl rfl (fits (show 12+1<=1000000 by decide));have A:fU (RR tt th pl wh #[↑5+2] (some pl) none) S3=.ok (.ret (.val (.bl true))) S3:=by unfold fU;simp? [lG (S:=S3) (j:=12) (by lia),show(12:Int).toNat=12 from rfl,lM0,ĭ,show((12:Nat)<1000000)=True from by simp,show vD 1 [2] (RR tt th pl wh #[↑5+2] (some pl) none)=[none,#[wh,0]]from rfl,N4 (cf:=qL) (ef:=qM) (w:=wh) (S:=S3) rfl rfl,f,Z7 b Z8,Wc e.1 e.2.1,e.2.2,Xr];rfl
 refine nV (T:=[.lst [],.ins c fs,.lst (KL c++[.bl true])]) rfl ?_ (LL _ _) (λl=>by simp);show xF (qO (RR tt th pl wh none none none) S)=_;unfold qO;rw[zD r,zD C,zD s,A,m];rfl
def N5{ts:Tk}(hi:bF [.val th,.val (.typ "str")] (S++[.lst []])=.ok (.val (.bl false)) (S++[.lst []])):yC 4 wI [#[ts.map tbl,6],.val th,#[5,5],#[0,5]] S=.ok (.val (.bl true)) S:=by
 refine WP (c:="NoText") (fs:=[]) ↑4 rfl ?_ (.inr ⟨rfl,rfl⟩);have a:zU kO [.tup (ts.map tbl),th]=[some _,some th,none,none,none]:=rfl;have h:yD [.tup (ts.map tbl),th] (S++[.lst []])=.exc "NoText" [] (S++[.lst []]):=by unfold yD lR;rw[a,eF (show gV [some _,some th,none,none,none] _=.exc "NoText" [] _ by unfold gV;simp? [hi];rfl)];rfl
 exact Y9 rfl rfl (by rw[aN];exact h)
end
section
def Qi(d:ZS ts)(f:T.length<=50000)(e:T.count 32<=800):jV 2 yD [#[ts.map tbl,6],.val (.str T)] S=qr ts T S:=by
 obtain⟨Z,h⟩:=Qb d f e;unfold qr at h ⊢
 cases a:Vz T with
 |none=>
  rw[a]at h;exact Y9 rfl rfl h
 |some p=>
  obtain⟨hs,as⟩:=p;rw[a]at h;dsimp only at h ⊢
  cases b:PV ts hs as with
  |none=>
   rw[b]at h;have:=WO (T:=T) (n:=↑5);unfold Kn at this;rw[a]at this;exact cxv rfl h this.1 this.2
  |some k=>
   rw[b]at h;exact Y9 rfl rfl h
end
theorem Z9(h:DS ts a):sm a=true:=by
 obtain⟨t,b,p,rfl,_,_,_,o,n,m,j⟩:=h
 have k: ∀d∈b,sm d=true:=λd e=>by
  rcases j d e with⟨x,_,rfl⟩|⟨v,hv,rfl⟩
  .rfl
  .rcases IO hv with⟨i,rfl,_⟩|⟨x,rfl,_⟩<;>rfl
 have f:sm (.tup b)=true:=by rw[KN,dT0 (by lia),EX k];rfl
 rw[KN,EX λd e=>?_]
 .rfl
 .simp only[mC,nM,or_false]at e;rcases e with rfl|rfl
  .rfl
  .exact f
section
theorem al_q{b:Ch}(k:as.length<=900)(e: ∀d∈as,DS ts d)(m:b.length<=900)(S):yC 2 (xW 8) [#[[.tup (b.map MV.str),.tup as],6],#[[.tup (b.map MV.str),.tup as],6]] S=.ok (.val (.bl true)) S:=by
 refine Ab 8 S ?_ ?_ ?_
 .rw[eE,wK,wK,eE,eE,EW (λd a=>(Gf d a).1),EW (λd a=>(Ge (e d a)).1)];rfl
 .have f:sm (.tup (b.map MV.str))=true:=by rw[KN,dT0 (by rw[lM0];lia),EX λd a=>by obtain⟨y,_,rfl⟩:=mM0.mp a;rfl];rfl
  have h:sm (.tup as)=true:=by rw[KN,dT0 (by lia),EX λd a=>Z9 (e d a)];rfl
  rw[KN,dT0 (by simp),EX λd a=>?_]
  .rfl
  .simp only[mC,nM,or_false]at a;rcases a with rfl|rfl
   .exact f
   .exact h
 .have j:PF (b.map MV.str)<=0:=NB λd a=>by obtain⟨u,_,rfl⟩:=mM0.mp a;rw[EV];exact à _
  have i:=NB λd a=>(Ge (e d a)).2;rw[dO,jX,jX,PH,dO,dO]
  lia
theorem zAA: ∀{u:Ch}{hs},jY (u.map λp=>(IY p).map MV.str)=some hs-> ∃a:List (List Nat),hs=a.map MV.str/\a.length=u.length/\ ∀w∈a,w.length<=8
 |[],hs,h=>by cases h;exact⟨[],rfl,rfl,λw hw=>by cases hw⟩
 |p::u,hs,h=>by
  rw[è]at h
  cases b:IY p with
  |none=>rw[b]at h;cases h
  |some r=>
   rw[b]at h
   replace h:(jY _).map (λf=>MV.str r::f)=some hs:=h
   cases d:jY _ with
   |none=>rw[d]at h;cases h
   |some es=>
    rw[d]at h;cases h;obtain⟨a,rfl,e,i⟩:=zAA d;refine⟨r::a,rfl,by rw[lC0,lC0,e],λw hw=>?_⟩;rcases mC.mp hw with rfl|hw
    .exact IR (uZ b).1
    .exact i w hw
noncomputable abbrev R4(tt:MV)(T:Db)(a b:T0):Rho:=[some tt,#[T,4],a,b]
theorem WQ(r:ZS ts)(v:T.length<=50000)(s:T.count 32<=800):yC 2 cB [#[ts.map tbl,6],.val (.str T)] S=.ok (.val (.bl true)) S:=by
 refine xL rfl ?_;show xF (vY (R4 ↑2 T none none) S)=_;have D:GK (.val (.str T)) [.val (.str [32])] S=.ok (.new (mS (cK 32 T))) S:=iP (by lia);have I:qP (R4 ↑2 T none none) S=.ok (.next (R4 ↑2 T (some (Kn T)) none)) S:=by unfold qP;exists 7,cF,D,M9 v s
 unfold vY;rw[zD I]
 cases m:Vz T with
 |none=>
  have y:Kn T=.non:=by unfold Kn;rw[m]
  rw[y];have f: ∀S,jV 2 yD [#[ts.map tbl,6],.val (.str T)] S=.exc "NoText" [] S:=λS=>by rw[Qi r v s];unfold qr;rw[m]
  rw[yL (show bR _ S=.ok (.ret (.val (.bl true))) S by unfold bR;exists 7,show JP (.val .non) (.val .non) S=.ok (.val (.bl true)) S from rfl,WP (S:=S) (tt:=.tup (ts.map tbl)) (th:=.str T) (wh:=5) (pl:=.int 0) (c:="NoText") (fs:=[]) ↑4 rfl (f _) (.inr ⟨rfl,rfl⟩))];rfl
 |some p=>
  obtain⟨hs,as⟩:=p;have y:Kn T=.tup [.tup hs,.tup as]:=by unfold Kn;rw[m]
  rw[y];obtain⟨u,t,G,Q,B⟩:=Hg m;have M:(cK 32 T).length<=801:=by rw[NG];lia
  have N:u.length<=801:=by
   rcases AC [58] (cK 32 T) [] [] u (by rw[G];exact mF0)with z|⟨z,_⟩
   .cases z
   .simp only[ë]at z;lia
  have J:t.length<=801:=by
   rcases AC [58] (cK 32 T) [] [] t (by rw[G];exact mO _ mF0)with z|⟨z,_⟩
   .cases z
   .simp only[ë]at z;lia
  have o:as.length<=900:=by
   have:=FA [59] t [] [];rw[vA B,lM0];simp only[ë]at this
   lia
  have A:1<=as.length:=by have:=PY [59] t [] [];rw[vA B,lM0,this];omega
  have F: ∀d∈as,zAK d:=λd b=>by
   obtain⟨q,O,e⟩:=rZ B b;rcases AC [59] t [] [] q O with z|⟨z,_⟩
   .cases z
   .exact Z5 e (by simp only[ë]at z;omega)
  obtain⟨a,rfl,W,P⟩:=zAA Q;have U:bR (R4 ↑2 T #[[.tup (a.map MV.str),.tup as],3] none) S=.ok (.next (R4 ↑2 T #[[.tup (a.map MV.str),.tup as],3] none)) S:=by unfold bR;exists 7,ZZ,fT,iF
  have K:qQ (R4 ↑2 T #[[.tup (a.map MV.str),.tup as],3] none) S=.ok (.next (R4 ↑2 T #[[.tup (a.map MV.str),.tup as],3] (some (MH ts (a.map MV.str) as)))) S:=by unfold qQ;exists 7,Wb r F A o (λw hw=>ç (P w hw) ↑4) (show a.length<=900 by omega)
  rw[zD U,zD K];have f: ∀S,jV 2 yD [#[ts.map tbl,6],.val (.str T)] S=qr ts T S:=λS=>Qi r v s;unfold qr at f;rw[m]at f;dsimp only at f
  cases b:PV ts (a.map MV.str) as with
  |some k=>
   rw[b]at f;have C:MH ts (a.map MV.str) as=.int (k:Nat):=by unfold MH;rw[b]
   rw[C];rw[yL (show bS _ S=.ok (.ret (.val (.bl true))) S by unfold bS;exists 7,show∀i,SR #[i,5] (.val .non) S=.ok (.val (.bl true)) S from λ_=>rfl,WP (S:=S) (tt:=.tup (ts.map tbl)) (th:=.str T) (wh:=8) (pl:=.int (k:Nat)) (c:="NoQuestion") (fs:=NQ k) ↑4 rfl (f _) (.inl ⟨rfl,k,rfl,rfl⟩))];rfl
  |none=>
   rw[b]at f;have C:MH ts (a.map MV.str) as=.non:=by unfold MH;rw[b]
   rw[C];rw[zD (show bS _ S=.ok (.next (R4 ↑2 T #[[.tup (a.map MV.str),.tup as],3] (some .non))) S by unfold bS;exists 7,show SR (.val .non) (.val .non) S=.ok (.val (.bl false)) S from rfl,fT,iF)]
   have L: ∀d∈as,DS ts d:=by
    unfold PV at b
    cases H:BK ts as 0 with
    |some j=>rw[H]at b;cases b
    |none=>exact λd b=>Xq r (GT H d b)
   have E:yC 2 yD [#[ts.map tbl,6],.val (.str T)] S=.ok #[[.tup (a.map MV.str),.tup as],6] S:=by obtain⟨Z,h⟩:=Qb (S:=S) r v s;unfold qr at h;rw[m]at h;dsimp only at h;rw[b]at h;have:=WO (T:=T) (n:=↑5);rw[y]at this;exact nV (T:=Z) rfl h this.1 this.2
   unfold DM;simp? [E,al_q (ts:=ts) o L (show a.length<=900 by omega)];rfl
end
theorem UB(b:stay gs S): ∀(L:X0),(∀p∈L, ∃a,gf p.1 ρb S=.ok a S/\cf a S=.ok true S/\ef a S=.ok (.val p.2) S)->xV gf cf ef ρb gs (L.map (·.1)) S=.ok (L.map (·.2)) S
 |[],_=>rfl
 |p::L,h=>by obtain⟨a,g,c,e⟩:=h p mF0;rw[è];unfold xV;rw[g,xO,cW,c,xO,cW,e,xO,cW];unfold dR;rw[cW,iP b,UB b L λq d=>h q (mO _ d)];rfl
def Qj(xs:List α):uR xs none none (some (-1))=xs.reverse:=by have e:uR xs none none (some (-1))=(sliceRange (_ - 1) (-1) (-1)).filterMap _:=rfl;rw[e,PySem.W.krv_sliceRange,PySem.W.krv_range,List.filterMap_reverse];have:=PySem.W.krv_all xs.toArray;simp only[sA,List.getElem?_toArray]at this;rw[this]
noncomputable def wd(b:Db)(at' tn k:Nat):List Nat:=b.take at'++[97+(tn+k) % 26]++b.drop (at'+1)
theorem Dq(h:at'<b.length)(tn k):(wd b at' tn k).length=b.length:=by
 unfold wd;simp only[lA,lS,lT,ú]
 lia
theorem Qk(d:Nm b)(h:at'<b.length)(tn k):Nm (wd b at' tn k):=by
 refine⟨by rw[Dq h];exact d.1,by rw[Dq h];exact d.2.1,λc a=>?_⟩;unfold wd at a;rw[ê,ê,mS0]at a;rcases a with(a|rfl)|a
 .exact d.2.2 c (mem_of_mem_take a)
 .lia
 .exact d.2.2 c (mem_of_mem_drop a)
def Ql(b:Db)(at' tn:Nat):List (List Nat):=(List.range 6).map (wd b at' tn)
abbrev HF(c:Int)(n z at' tn:T0)(a bs j wh:T0):Rho:=[#[c,0],#[6,0],#[abc,4],n,z,at',a,bs,j,tn,wh]
theorem We(c n)(x)(z a t g j w)(S)(h:x.length<=1000): ∃k,(97<=k/\k<=122)/\aQ (HF c #[n,0] z a t g #[x,4] j w) S=
  .ok (.next (HF c #[n / 26,0] z a t g #[x++[k],4] j w)) S:=by
 obtain⟨k,b⟩:=dF (xs:=abc) (i:=n % 26) (eN _ ↑4) (by have:=eL n (show _<26 by decide);show n % 26<26;exact this);refine⟨k,dG (P:=λk=>97<=k/\k<=122) ↑4 b,?_⟩;have d:fG (HF c #[n,0] z a t g #[x,4] j w) S=.ok (.next (HF c #[n,0] z a t g #[x++[k],4] j w)) S:=by unfold fG;simp? [mod_lit (show _<26 by decide),ix_str (by rw[ý];decide) b];rw[add_str (fits (by rw[lS];lia))];rfl
 have e:fH (HF c #[n,0] z a t g #[x++[k],4] j w) S=.ok (.next (HF c #[n / 26,0] z a t g #[x++[k],4] j w)) S:=by unfold fH;exists 7,xG (show _<26 by decide) ↑4
 unfold aQ;rw[zD d,e]
theorem Hk(c)(z a t g w)(S): ∀ b  n  x  s ,x.length+b.length<=1000->(∀c∈x,97<=c/\c<=122)-> ∃i e j,bA (xY 8) aQ [] b (HF c #[n,0] z a t g #[x,4] s w) S=
  .ok (.next (HF c #[i,0] z a t g #[e,4] j w)) S/\e.length=x.length+b.length/\ ∀c∈e,97<=c/\c<=122
 |[],n,x,s,_,hx=>⟨n,x,s,rfl,rfl,hx⟩
 |d::b,n,x,s,h,hx=>by
  rw[lC0]at h;obtain⟨k,r,p⟩:=We c n x z a t g _ w S (by lia)
  obtain⟨i,e,j,m,o,q⟩:=Hk c z a t g w S b _ (x++[k]) _ (by rw[lA,lS];lia) (by
   intro c f;rw[ê,mS0]at f;rcases f with f|rfl
   .exact hx c f
   .exact r)
  refine⟨i,e,j,?_,by rw[o,lA,lS,lC0];lia,q⟩;rw[yM rfl p (xZ S)];exact m
def N6: ∀k:Nat,k<26->iU abc  k =some (97+k):=by decide
theorem Qm(c)(S): ∃ws:List (List Nat),ws.length=6/\(∀y∈ws,Nm y)/\yC 2 hZ [#[c,5],#[6,5]] S=.ok (.new (ws.map MV.str)) S:=by
 obtain⟨n,hn⟩:=KI c 2147483647 ⟨by decide,by decide⟩ S;have z0:0<=n % 7:=eN _ ↑4;have z1:n % 7<7:=eL _ ↑4;have L:(0:Int)<1+n % 7:=by omega
 obtain⟨at',r⟩: ∃at':Nat,n / 7 % (1+n % 7)=(at':Nat):=⟨(n / 7 % (1+n % 7)).toNat,(Int.toNat_of_nonneg (eN _ (by omega))).symm⟩
 have a1:(at':Int)<1+n % 7:=by rw[<-r];exact eL _ L
 have t:((List.range (1+n % 7).toNat).map λk=>MV.int (k:Nat)).length=(1+n % 7).toNat:=by rw[lM0,ĭ]
 obtain⟨a,D⟩: ∃a:Bool,a=decide (n / 49 % 3=1):=⟨_,rfl⟩
 obtain⟨e,b,h,X,T,K⟩:=Hk c #[1+n % 7,0] #[(at':Nat),0] none (some (.bl a)) none S ((List.range (1+n % 7).toNat).map λk=>MV.int (k:Nat)) (n / 147) [] none (by rw[t];simp only[ë];lia) (by simp);rw[t,ë]at T;have G:Nm b:=⟨by omega,by omega,K⟩
 have Y:b.length<=7:=by omega
 have f:at'<b.length:=by omega
 obtain⟨k,I⟩:=dF (xs:=b) (i:=(at':Int)) (by omega) (by omega);obtain⟨k0,k1⟩:=dG (P:=λc=>97<=c/\c<=122) K I;have hi:=Ga (k - 97) (by omega);rw[show 97+(k - 97)=k by omega]at hi;have s: ∀S,OP (.val (.str abc)) [.val (.str [k])] S=.ok #[((k - 97:Nat):Int),5] S:=λS=>by show(match strIdx abc [k]with |some i=>R.ok (Er.val (.int (i:Nat))) S|none=>.no)=_;rw[hi]
 generalize ab:k - 97=tn at s;have c1:cU b none (some (at':Int))=b.take at':=by rw[Fm _ _ (by omega)];rfl
 have c2:cU b (some ((at':Int)+1)) none=b.drop (at'+1):=by
  unfold cU;have Z:HT.sIx b.length 0 (some ((at':Int)+1))=at'+1:=by unfold HT.sIx;simp only;split<;>omega
  have y2:HT.sIx b.length b.length none=b.length:=rfl;rw[Z,y2];rw[ę (by rw[ú];omega)]
 have v: ∀S,xV (xY 0) bX jW [none,#[abc,4],#[(at':Nat),0],#[b,4],#[(tn:Nat),0]] [] ((List.range 6).map λk=>MV.int (k:Nat)) S=.ok ((Ql b at' tn).map MV.str) S:=λS=>by
  have:=UB (gf:=xY 0) (cf:=bX) (ef:=jW) (ρb:=[none,#[abc,4],#[(at':Nat),0],#[b,4],#[(tn:Nat),0]]) (S:=S) (gs:=[]) (xZ S) ((List.range 6).map λk=>(MV.int (k:Nat),MV.str (wd b at' tn k))) λp hp=>by
   obtain⟨i,hi,rfl⟩:=mM0.mp hp;refine⟨[#[(i:Nat),0],#[abc,4],#[(at':Nat),0],#[b,4],#[(tn:Nat),0]],rfl,rfl,?_⟩;have hm:(((tn:Nat):Int)+((i:Nat):Int)) % 26=(((tn+i) % 26:Nat):Int):=by omega
   have B: ∀S,gL (.val (.str abc)) #[(((tn:Nat):Int)+((i:Nat):Int)) % 26,5] S=.ok (.val (.str [97+(tn+i) % 26])) S:=λS=>by rw[hm];exact ix_str (show abc.length<=sizeLine by rw[ý];decide) (N6 _ (mod_lt _ ↑4))
   unfold jW;simp? [cut_str (S:=S) (fits (show b.length<=1000000 by omega)),c1,mod_lit (show(0:Int)<26 by decide),B];rw[add_str (x:=b.take at') (y:=[97+(tn+i) % 26]) (fits (by rw[lS,lT];omega)),cW];simp? [cut_str (S:=S) (fits (show b.length<=1000000 by omega)),c2];rw[add_str (fits (by simp only[lA,lS,lT,ú];omega))];rfl
  have h1:List.map ((λx:MV×MV=>x.1)∘λk:Nat=>(MV.int (k:Nat),MV.str (wd b at' tn k))) (List.range 6)=(List.range 6).map λk:Nat=>MV.int (k:Nat):=rfl;have h2:List.map ((λx:MV×MV=>x.2)∘λk:Nat=>(MV.int (k:Nat),MV.str (wd b at' tn k))) (List.range 6)=(Ql b at' tn).map MV.str:=by unfold Ql;rw[Ē];rfl
  rw[Ē,Ē,h1,h2]at this;exact this
 have hs:zU oR [.int c,.int 6]=[#[c,0],#[6,0],none,none,none,none,none,none,none,none,none]:=rfl;have e1:DD [#[c,0],#[6,0],none,none,none,none,none,none,none,none,none] S=.ok (.next (HF c none none none none none none none none)) S:=rfl;have e2:pQ (HF c none none none none none none none none) S=.ok (.next (HF c #[n,0] none none none none none none none)) S:=by unfold pQ;exists 7,hn
 have Q:pR (HF c #[n,0] none none none none none none none) S=.ok (.next (HF c #[n,0] #[1+n % 7,0] none none none none none none)) S:=by unfold pR;exists 7,mod_lit (show(0:Int)<7 by decide)
 have e4:pS (HF c #[n,0] #[1+n % 7,0] none none none none none none) S=.ok (.next (HF c #[n,0] #[1+n % 7,0] #[(at':Nat),0] none none none none none)) S:=by unfold pS;simp? [xG (b:=7) ↑4 ↑4,mod_lit L,r]
 have e5:pU (HF c #[n,0] #[1+n % 7,0] #[(at':Nat),0] none none none none none) S=.ok (.next (HF c #[n,0] #[1+n % 7,0] #[(at':Nat),0] none (some (.bl a)) none none none)) S:=by unfold pU;simp? [xG (b:=49) ↑4 ↑4,mod_lit (show(0:Int)<3 by decide),D]
 have U:pV (HF c #[n,0] #[1+n % 7,0] #[(at':Nat),0] none (some (.bl a)) none none none) S=.ok (.next (HF c #[n / 147,0] #[1+n % 7,0] #[(at':Nat),0] none (some (.bl a)) none none none)) S:=by unfold pV;exists 7,xG (b:=147) ↑4 ↑4
 have W:DE (HF c #[n / 147,0] #[1+n % 7,0] #[(at':Nat),0] none (some (.bl a)) none none none) S=.ok (.next (HF c #[n / 147,0] #[1+n % 7,0] #[(at':Nat),0] none (some (.bl a)) #[[],4] none none)) S:=rfl;have N:pW (HF c #[n / 147,0] #[1+n % 7,0] #[(at':Nat),0] none (some (.bl a)) #[[],4] none none) S=.ok (.next (HF c #[e,0] #[1+n % 7,0] #[(at':Nat),0] none (some (.bl a)) #[b,4] h none)) S:=by unfold pW;exists 7,lG (S:=S) (show -(2 ^ 62)<=1+n % 7/\1+n % 7<2 ^ 62 by omega),X
 have e9:pY (HF c #[e,0] #[1+n % 7,0] #[(at':Nat),0] none (some (.bl a)) #[b,4] h none) S=.ok (.next (HF c #[e,0] #[1+n % 7,0] #[(at':Nat),0] #[(tn:Nat),0] (some (.bl a)) #[b,4] h none)) S:=by unfold pY;exists 7,ix_str (S:=S) (fits (show b.length<=1000000 by omega)) I,cF,s
 have C:mG (HF c #[e,0] #[1+n % 7,0] #[(at':Nat),0] #[(tn:Nat),0] (some (.bl a)) #[b,4] h none) S=.ok (.next (HF c #[e,0] #[1+n % 7,0] #[(at':Nat),0] #[(tn:Nat),0] (some (.bl a)) #[b,4] h #[↑5])) (S++[.lst ((Ql b at' tn).map MV.str)]):=by unfold mG;simp? [lG (S:=S) (j:=6) ↑4];rw[iP ↑4];show((xV (xY 0) bX jW [none,#[abc,4],#[(at':Nat),0],#[b,4],#[(tn:Nat),0]] [] ((List.range 6).map λk=>MV.int (k:Nat)) S).bind _).bind _=_;rw[v];rfl
 have w: ∀y∈Ql b at' tn,Nm y:=λy u=>by obtain⟨i,_,rfl⟩:=mM0.mp u;exact Qk G f tn i
 have o: ∀ws:List (List Nat),dM (HF c #[e,0] #[1+n % 7,0] #[(at':Nat),0] #[(tn:Nat),0] (some (.bl a)) #[b,4] h #[↑5]) (S++[.lst ((Ql b at' tn).map MV.str)])=.ok (.next (HF c #[e,0] #[1+n % 7,0] #[(at':Nat),0] #[(tn:Nat),0] (some (.bl a)) #[b,4] h #[↑5])) (S++[.lst (ws.map MV.str)])->yC 2 hZ [#[c,5],#[6,5]] S=.ok (.new (ws.map MV.str)) S:=by
  intro ws A;have H:BC (HF c #[e,0] #[1+n % 7,0] #[(at':Nat),0] #[(tn:Nat),0] (some (.bl a)) #[b,4] h #[↑5]) (S++[.lst (ws.map MV.str)])=.ok (.ret #[↑5,1]) (S++[.lst (ws.map MV.str)]):=rfl;have hF:hZ [.int c,.int 6] S=.ok #[↑5,1] (S++[.lst (ws.map MV.str)]):=by unfold hZ IK;rw[hs,zD e1,zD e2,zD Q,zD e4,zD e5,zD U,zD W,zD N,zD e9,zD C,zD A,H];rfl
  exact DQ rfl (show yB [#[c,5],#[6,5]] S=([.int c,.int 6],S)from rfl) hF (.inr ⟨_,rfl,à _,yP S _⟩) (kN λd hd=>by obtain⟨y,_,rfl⟩:=mM0.mp hd;exact dS _ _)
 cases m:a with
 |false=>
  refine⟨Ql b at' tn,rfl,w,o _ ?_⟩;unfold dM;rw[m];exists 7,fT,iF
 |true=>
  obtain⟨q,M⟩:=dF (xs:=abc) (i:=e % 26) (eN _ ↑4) (by have:=eL e (show(0:Int)<26 by decide);show e % 26<26;exact this);have F:=dG (P:=λk=>97<=k/\k<=122) ↑4 M;have aa:=Dq (b:=b) f tn 0
  have B:Nm (wd b at' tn 0++[q]):=by
   have O:=Qk G f tn 0;refine⟨by rw[lA,lS];omega,by rw[lA,lS];omega,λc v=>?_⟩;rcases ê.mp v with z|z
   .exact O.2.2 c z
   .rw[mS0.mp z];exact F
  refine⟨[wd b at' tn 0,wd b at' tn 0++[q],wd b at' tn 2,wd b at' tn 3,wd b at' tn 4,wd b at' tn 5],rfl,?_,o _ ?_⟩
  .intro y u;simp only[mC,nM,or_false]at u;rcases u with rfl|rfl|rfl|rfl|rfl|rfl<;>first |exact B|exact Qk G f tn _
  .have J:=yP S (MO.lst ((Ql b at' tn).map MV.str));have E:gL #[↑5,1] #[0,5] (S++[.lst ((Ql b at' tn).map MV.str)])=.ok (.val (.str (wd b at' tn 0))) (S++[.lst ((Ql b at' tn).map MV.str)]):=gQ J rfl;unfold dM;rw[m];simp? [E,mod_lit (show(0:Int)<26 by decide),ix_str (show abc.length<=sizeLine by rw[ý];decide) M];rw[add_str (fits (by rw[lS];omega)),cW];simp? [Gb,Ov (j:=1) J (show QK ((Ql b at' tn).map MV.str).length 1=some 1 from rfl),IL];rfl
noncomputable abbrev A9(c:Int)(tt:MV)(w p:Nat)(n t tm k:T0):Rho:=[#[c,0],some tt,#[w],#[p],#[7,0],n,t,tm,k]
section
variable{S:Sto}{ws:Ch}
theorem Qn(hw:S[w]? =#[ws.map MV.str,2])(j:ws.length=6)(G: ∀y∈ws,Nm y)(A:S[p]? =#[vs,2])(D:vs.length=7)(E: ∀d∈vs,Vl d)(hm:S[m]? =#[tms,2])(H:tms.length<1000):
  ∃d,GQ d/\cX (A9 c tt w p #[n,0] t #[m] k) S=.ok (.next (A9 c tt w p #[n / 210,0] t #[m] k)) (S.set m (.lst (tms++[d]))):=by
 have b:kS [#[w,1]] S=.ok #[6,5] S:=by rw[vL hw,lM0,j];rfl
 obtain⟨d,r⟩:=dF (xs:=ws.map MV.str) (i:=n / 5 % 6) (eN _ ↑4) (by rw[lM0,j];exact eL _ ↑4);obtain⟨y,F,rfl⟩: ∃y,Nm y/\d=.str y:=dG (P:=λd=> ∃y,Nm y/\d=.str y) (λe B=>by obtain⟨u,C,rfl⟩:=mM0.mp B;exact⟨u,G u C,rfl⟩) r;obtain⟨v,z⟩:=dF (xs:=vs) (i:=n / 5 % 7) (eN _ ↑4) (by rw[D];exact eL _ ↑4);have h:=dG E z;have s: ∀f,mH (A9 c tt w p #[n,0] t #[m] k) f=.ok (.next (A9 c tt w p #[n / 210,0] t #[m] k)) f:=λf=>by unfold mH;exists 7,xG (show(0:Int)<210 by decide) ↑4
 have q:tms.length<1000000:=by lia
 by_cases o:n % 5<3
 .refine⟨.tup [.str DR,.str y],.inl ⟨y,F,rfl⟩,?_⟩;have a:gH (A9 c tt w p #[n,0] t #[m] k) S=.ok (.next (A9 c tt w p #[n,0] t #[m] k)) (S.set m (.lst (tms++[.tup [.str DR,.str y]]))):=by unfold gH;simp? [mod_lit (show(0:Int)<5 by decide),lt_int,dT0 o,cE hm,xG (show(0:Int)<5 by decide) ↑4,b,mod_lit (show(0:Int)<6 by decide),gQ hw r,tup2,vZ hm q]
  unfold cX;rw[zD a,s]
 .refine⟨.tup [.str IS,v],.inr ⟨v,h,rfl⟩,?_⟩;have a:gH (A9 c tt w p #[n,0] t #[m] k) S=.ok (.next (A9 c tt w p #[n,0] t #[m] k)) (S.set m (.lst (tms++[.tup [.str IS,v]]))):=by unfold gH;simp? [mod_lit (show(0:Int)<5 by decide),lt_int,dF0 o,fT,iF,cE hm,xG (show(0:Int)<5 by decide) ↑4,mod_lit (show(0:Int)<7 by decide),gQ A z,tup2,vZ hm q]
  unfold cX;rw[zD a,s]
def Xw{i:Nat}(h:S[i]? =some e):(S++[o])[i]? =some e:=by rw[á (gS.mp h).1];exact h
theorem Aj(hw:S[w]? =#[ws.map MV.str,2])(i:ws.length=6)(r: ∀y∈ws,Nm y)(j:S[p]? =#[vs,2])(m:vs.length=7)(q: ∀d∈vs,Vl d): ∀ L  n  tms  k ,tms.length+L.length<1000->(∀d∈tms,GQ d)->
  ∃b a f,bA (xY 8) cX [] L (A9 c tt w p #[n,0] t #[↑5] k) (S++[.lst tms])=.ok (.next (A9 c tt w p #[b,0] t #[↑5] f)) (S++[.lst a])/\a.length=tms.length+L.length/\ ∀d∈a,GQ d
 |[],n,tms,k,_,h=>⟨n,tms,k,rfl,rfl,h⟩
 |e::L,n,tms,k,hl,h=>by
  rw[lC0]at hl;obtain⟨d,v,o⟩:=Qn (tms:=tms) (Xw hw) i r (Xw j) m q (yP S _) (by lia);rw[IL]at o
  obtain⟨b,a,f,s,u,B⟩:=Aj hw i r j m q L _ (tms++[d]) _ (by rw[lA,lS];lia) (λx A=>by
   rcases ê.mp A with z|z
   .exact h x z
   .rw[mS0.mp z];exact v)
  refine⟨b,a,f,?_,by rw[u,lA,lS,lC0];lia,B⟩;rw[yM rfl o (xZ _)];exact s
theorem Qo(c)(s:ZS ts)(hw:S[w]? =#[ws.map MV.str,2])(F:ws.length=6)(I: ∀y∈ws,Nm y)(G:S[p]? =#[vs,2])(X:vs.length=7)(N: ∀d∈vs,Vl d):
  ∃a,DS ts a/\yC 5 nI [#[c,5],#[ts.map tbl,6],#[w,1],#[p,1],#[7,5]] S=.ok (.val a) S:=by
 obtain⟨n,U⟩:=KI c 2147483549 ⟨by decide,by decide⟩ S;have A:kS [#[ts.map tbl,6]] S=.ok #[(ts.length:Nat),5] S:=by rw[gY,lM0]
 have q:(0:Int)<((ts.length:Nat):Int):=by have:=s.1;omega
 have Q:((ts.length:Nat):Int)<1073741824:=by have:=s.2.1;omega
 have r:0<=n % ((ts.length:Nat):Int):=eN _ (by lia);have v:n % ((ts.length:Nat):Int)<((ts.length:Nat):Int):=eL _ q;obtain⟨d,o⟩:=dF (xs:=ts.map tbl) r (by rw[lM0];exact v);obtain⟨f,m,rfl⟩: ∃f,_/\d=tbl f:=dG (P:=λd=> ∃f,(1<=f.1/\f.1<=4/\0<=f.2/\f.2<=f.1)/\d=tbl f) (λe J=>by obtain⟨u,L,rfl⟩:=mM0.mp J;exact⟨u,s.2.2 u L,rfl⟩) o;obtain⟨i,hi⟩: ∃i,i=n % ((ts.length:Nat):Int):=⟨_,rfl⟩
 rw[<-hi]at r v o;have h:((List.range f.1.toNat).map λk=>MV.int (k:Nat)).length=f.1.toNat:=by rw[lM0,ĭ]
 obtain⟨z,b,B,O,H,K⟩:=Aj (c:=c) (tt:=.tup (ts.map tbl)) (t:=#[i,0]) hw F I G X N _ _ [] none (by rw[h];simp only[ë];omega) (by simp);rw[h,ë]at H;have ok:DS ts (.tup [.int i,.tup b]):=⟨i,b,f,rfl,r,v,o,by lia,m.1,m.2.1,K⟩
 have hs:zU CN [.int c,.tup (ts.map tbl),.loc w,.loc p,.int 7]=A9 c ↑2 w p none none none none:=rfl;have C:tF (A9 c ↑2 w p none none none none) S=.ok (.next (A9 c ↑2 w p #[n,0] none none none)) S:=by unfold tF;exists 7,U
 have Y:tG (A9 c ↑2 w p #[n,0] none none none) S=.ok (.next (A9 c ↑2 w p #[n,0] #[i,0] none none)) S:=by unfold tG;simp? [A,mod_lit q,hi]
 have E:tH (A9 c ↑2 w p #[n,0] #[i,0] none none) S=.ok (.next (A9 c ↑2 w p #[n / ((ts.length:Nat):Int),0] #[i,0] none none)) S:=by unfold tH;simp? [A,xG q Q]
 have W:tI (A9 c ↑2 w p #[n / ((ts.length:Nat):Int),0] #[i,0] none none) S=.ok (.next (A9 c ↑2 w p #[n / ((ts.length:Nat):Int),0] #[i,0] #[↑5] none)) (S++[.lst []]):=by unfold tI;exists 7,rfl
 have D:tK (A9 c ↑2 w p #[n / ((ts.length:Nat):Int),0] #[i,0] #[↑5] none) (S++[.lst []])=.ok (.next (A9 c ↑2 w p #[z,0] #[i,0] #[↑5] B)) (S++[.lst b]):=by unfold tK;exists 7,ix_tup (S:=S++[.lst []]) o,show∀S:Sto,gL (.val (tbl f)) #[0,5] S=.ok #[f.1,5] S from λ_=>rfl,lG (S:=S++[.lst []]) (j:=f.1) (by omega),O
 have M:tL (A9 c ↑2 w p #[z,0] #[i,0] #[↑5] B) (S++[.lst b])=.ok (.ret #[[.int i,.tup b],6]) (S++[.lst b]):=by unfold tL;exists 7,EU (yP S (MO.lst b))
 refine⟨_,ok,nV (T:=[.lst b]) rfl ?_ (Oz (Ge ok).1) (λl=>by simp)⟩;show nI [.int c,.tup (ts.map tbl),.loc w,.loc p,.int 7] S=_;unfold nI LV;rw[hs,zD C,zD Y,zD E,zD W,zD D,M];rfl
theorem UC(i:ZS ts)(hw:S[w]? =#[ws.map MV.str,2])(f:ws.length=6)(m: ∀y∈ws,Nm y)(h:S[p]? =#[vs,2])(j:vs.length=7)(k: ∀d∈vs,Vl d): ∀(b:Za), ∃as,as.length=b.length/\(∀d∈as,DS ts d)/\xV (xY 0) cQ jO [none,#[ts.map tbl,3],#[w],#[p],#[7,0]] [] (b.map MV.int) S=.ok as S
 |[]=>⟨[],rfl,by simp,rfl⟩
 |c::b=>by
  obtain⟨a,s,n⟩:=Qo c i hw f m h j k;obtain⟨as,o,q,t⟩:=UC i hw f m h j k b;refine⟨a::as,by rw[lC0,lC0,o],λd r=>(mC.mp r).elim (λz=>z▸s) (q d),?_⟩;have e:jO [#[c,0],#[ts.map tbl,3],#[w],#[p],#[7,0]] S=.ok (.val a) S:=by unfold jO;exists 7,n
  rw[è];unfold xV;rw[show xY 0 _ [none,some _,some _,some _,some _] S=.ok [some _,some _,some _,some _,some _] S from rfl,xO,cW,show cQ [some _,some _,some _,some _,some _] S=.ok true S from rfl,xO,cW,iP rfl,e,xO,cW];unfold dR;rw[cW,iP (xZ _),t];rfl
end
noncomputable def qV(hs:Ch)(as:R0):MV:=.tup [.tup (hs.map MV.str),.tup as]
noncomputable abbrev BM(q w p:Nat)(tt:MV)(a tm t s th n h k:T0):Rho:=[#[q],some tt,#[w],#[p],#[7,0],a,tm,t,s,th,n,h,k]
def WR{S:Sto}{i:Nat}(h:S[i]? =some e):(S++U)[i]? =some e:=by rw[á (gS.mp h).1];exact h
theorem Qp(ds)(S):Fi [#[ds,6]] S=.ok (.new ds) S:=rfl
section
theorem Hl: ∀ as ,(∀d∈as,DS ts d)-> ∀ U  m  b  t s ,(S++U)[m]? =#[b,2]->b.length+4 * as.length<=1000->
  ∃i j o r,bA (MU 2 (yR (xY 7) (yR (xY 8) nB))) gW [] as (BM q w p tt a #[m] t s th n h k) (S++U)=.ok (.next (BM q w p tt a #[j] o r th n h k)) (S++i)/\(S++i)[j]? =#[b++as.flatMap LW,2]
 |[],_,U,m,b,t,s,hm,_=>⟨U,m,t,s,rfl,by rw[List.flatMap_nil,aN];exact hm⟩
 |d::as,hA,U,m,b,t,s,hm,hl=>by
  rw[lC0]at hl;obtain⟨u,f,B,rfl,_,_,_,F,C,D,E⟩:=hA d mF0;have A:gW (BM q w p tt a #[m] #[u,0] #[f,3] th n h k) (S++U)=.ok (.next (BM q w p tt a #[(S++U).length] #[u,0] #[f,3] th n h k)) (S++U++[.lst (b++f)]):=by unfold gW oK;simp? [Qp];rw[lF (vM hm) rfl (fits (by lia))];rfl
  obtain⟨i,j,o,r,v,z⟩:=Hl as (λe y=>hA e (mO _ y)) _ (S++U).length (b++f) _ _ (by rw[<-aA];exact yP _ _) (by rw[lA];lia);refine⟨i,j,o,r,?_,?_⟩
  .rw[yM rfl A (xZ _)];rw[aA];exact v
  .rw[z,List.flatMap_cons,aA];rfl
theorem Wf{R:Ch}(m:S[l]? =#[(P++y::R).map MV.str,2])(e:S[g]? =#[hd.map MV.str,2])(o:hd.length<=1000):
  (jA (BM q w p tt a tm t s #[l] #[n,0] #[g] (some (.int  P.length ))) S=.ok (.next (BM q w p tt a tm t s #[l] #[n / 3,0] #[g] (some (.int  P.length )))) S)\/
  (jA (BM q w p tt a tm t s #[l] #[n,0] #[g] (some (.int  P.length ))) S=.ok (.next (BM q w p tt a tm t s #[l] #[n / 3,0] #[g] (some (.int  P.length )))) (S.set g (.lst ((hd++[y]).map MV.str)))):=by
 have j:kS [#[g,1]] S=.ok #[(hd.length:Nat),5] S:=by rw[vL e,lM0]
 have f:iU ((P++y::R).map MV.str) ((P.length:Nat):Int)=#[y,4]:=by
  have h:QK ((P++y::R).map MV.str).length ((P.length:Nat):Int)=some P.length:=by unfold QK;rw[iP (by lia),iP (by rw[lM0,lA,lC0];lia)];rfl
  unfold iU;rw[h];show _[P.length]? =_;rw[ü,â (à _),sub_self];rfl
 have k: ∀d,cS (BM q w p tt a tm t s #[l] #[n,0] #[g] #[(P.length:Nat),0]) d=.ok (.next (BM q w p tt a tm t s #[l] #[n / 3,0] #[g] #[(P.length:Nat),0])) d:=λd=>by unfold cS;exists 7,xG (show(0:Int)<3 by decide) ↑4
 unfold jA;by_cases i:0<n % 3
 .right;have b:wR (BM q w p tt a tm t s #[l] #[n,0] #[g] #[(P.length:Nat),0]) S=.ok (.next (BM q w p tt a tm t s #[l] #[n,0] #[g] #[(P.length:Nat),0])) (S.set g (.lst (hd.map MV.str++[.str y]))):=by unfold wR;exists 7,mod_lit (show(0:Int)<3 by decide),gt_int,dT0 i,cE e,gQ m f,vZ e (by rw[lM0];omega)
  rw[zD b,k,ï];rfl
 .left;have b:wR (BM q w p tt a tm t s #[l] #[n,0] #[g] #[(P.length:Nat),0]) S=.ok (.next (BM q w p tt a tm t s #[l] #[n,0] #[g] #[(P.length:Nat),0])) S:=by unfold wR;simp? [mod_lit (show(0:Int)<3 by decide),gt_int,dF0 i,fT,iF]
  rw[zD b,k]
theorem WS(m:S[l]? =#[th.map MV.str,2]): ∀(R P d:Ch) n  k ,th=P++R->d.Sublist P->th.length<=1000->
  ∃(h:Int)(k':T0)(b:Ch),bA (xY 12) jA [] ((List.range' P.length R.length).map λi=>MV.int (i:Nat)) (BM q w p tt a tm t s #[l] #[n,0] #[↑5] k) (S++[.lst (d.map MV.str)])=.ok (.next (BM q w p tt a tm t s #[l] #[h,0] #[↑5] k')) (S++[.lst (b.map MV.str)])/\b.Sublist th
 |[],P,d,n,k,e,hs,h4=>⟨n,k,d,rfl,by rw[e,aN];exact hs⟩
 |y::R,P,d,n,k,e,hs,h4=>by
  subst e;have o:=yP S (MO.lst (d.map MV.str));have g:xY 12 (.int (P.length:Nat)) (BM q w p tt a tm t s #[l] #[n,0] #[↑5] k) (S++[.lst (d.map MV.str)])=.ok _ _:=rfl;rw[lC0,range'_succ,è];rcases Wf (q:=q) (w:=w) (p:=p) (a:=a) (tm:=tm) (t:=t) (s:=s) (n:=n) (WR m) o (by have:=hs.length_le;rw[lA]at h4;lia)with hb|hb
  .obtain⟨h,k',b,f,j⟩:=WS (a:=a) (tm:=tm) (t:=t) (s:=s) m R (P++[y]) d (n / 3) _ (by simp) (hs.trans (List.sublist_append_left _ _)) h4;rw[lA,lS]at f;exact⟨h,k',b,by rw[yM g hb (xZ _)];exact f,j⟩
  .rw[IL]at hb;obtain⟨h,k',b,f,j⟩:=WS (a:=a) (t:=t) (s:=s) m R (P++[y]) (d++[y]) (n / 3) _ (by simp) (hs.append (List.Sublist.refl _)) h4;rw[lA,lS]at f;exact⟨h,k',b,by rw[yM g hb (xZ _)];exact f,j⟩
def Xx{as:R0}(b: ∀d∈as,DS ts d): ∀d∈as.flatMap LW,GQ d:=λd f=>by obtain⟨a,i,h⟩:=List.mem_flatMap.mp f;obtain⟨m,j,k,rfl,_,_,_,_,_,_,e⟩:=b a i;exact e d h
theorem Qq{ws:Ch}(hT:ZS ts)(hw:S[w]? =#[ws.map MV.str,2])(h6:ws.length=6)(hN: ∀y∈ws,Nm y)(hp:S[p]? =#[vs,2])(h7:vs.length=7)(hV: ∀d∈vs,Vl d)(hq:S[q]? =#[(c0::cs).map MV.int,2])(h1:1<=cs.length)(h4:cs.length<=4):
  ∃hs as,as.length=cs.length/\(∀d∈as,DS ts d)/\(∀y∈hs,Nm y)/\hs.length<=6/\yC 5 wQ [#[q,1],#[ts.map tbl,6],#[w,1],#[p,1],#[7,5]] S=.ok (.val (qV hs as)) S:=by
 obtain⟨as,a1,A,aa⟩:=UC hT hw h6 hN hp h7 hV cs;have P:zU gF [.loc q,.tup (ts.map tbl),.loc w,.loc p,.int 7]=BM q w p ↑2 none none none none none none none none:=rfl;have Z:(cs.map MV.int).length<1000000:=by rw[lM0];lia
 have e1:aR (BM q w p ↑2 none none none none none none none none) S=.ok (.next (BM q w p ↑2 #[as,3] none none none none none none none)) S:=by unfold aR;simp? [rY hq,show cU ((c0::cs).map MV.int) (some 1) none=cs.map MV.int from Pz _ _,show∀(ds:R0)(S:Sto),QS (.new ds) S=.ok ⟨ds,[]⟩ S from λ_ _=>rfl,Z,show vD 1 [1,2,3,4] (BM q w p ↑2 none none none none none none none none)=[none,#[ts.map tbl,3],#[w],#[p],#[7,0]]from rfl,aa,show∀(o:R0)(S:Sto),hW [.new o] S=.ok #[o,6] S from λ_ _=>rfl]
 have e2:aS (BM q w p ↑2 #[as,3] none none none none none none none) S=.ok (.next (BM q w p ↑2 #[as,3] #[↑5] none none none none none none)) (S++[.lst []]):=by unfold aS;exists 7,rfl
 obtain⟨U,m,j,f,l1,hm⟩:=Hl (S:=S) (q:=q) (w:=w) (p:=p) (tt:=.tup (ts.map tbl)) (a:=#[as,3]) (th:=none) (n:=none) (h:=none) (k:=none) as A [.lst []] ↑5 [] none none (yP S _) (by simp only[ë];lia);rw[Ġ]at hm;have e3:aT (BM q w p ↑2 #[as,3] #[↑5] none none none none none none) (S++[.lst []])=.ok (.next (BM q w p ↑2 #[as,3] #[m] j f none none none none)) (S++U):=by unfold aT;exists 7,F8,l1
 have I: ∀y∈as.flatMap LW,pd y=true/\KM y<40:=λd e=>⟨(Gd (Xx A d e)).1,by have:=(Gd (Xx A d e)).2;lia⟩
 have E:=WR (U:=U) hw;have J:=iS (S:=S++U) (gf:=xY 0) (cf:=cR) (ef:=oO) (ρb:=[none,#[m]]) (gs:=[(w,ws.map MV.str)]) (p:=λd=>decide (MV.tup [.str DR,d]∈as.flatMap LW)) (bH E) (ds:=ws.map MV.str) λd e=>by obtain⟨y,B,rfl⟩:=mM0.mp e;refine⟨[#[y,4],#[m]],rfl,?_,rfl⟩;unfold cR;simp? [tup2,Vg false hm (show pd (.tup [.str DR,.str y])=true by rw[eE,wK,wK,VX,Df,Df];rfl) I,fT,iF]
 obtain⟨th,F⟩: ∃th,th=ws.filter λy=>decide (MV.tup [.str DR,.str y]∈as.flatMap LW):=⟨_,rfl⟩
 have Y:(ws.map MV.str).filter (λd=>decide (MV.tup [.str DR,d]∈as.flatMap LW))=th.map MV.str:=by rw[F,List.filter_map];rfl
 rw[Y]at J;have u:th.Sublist ws:=by rw[F];exact List.filter_sublist
 have X:th.length<=6:=by have:=u.length_le;lia
 have O:(ws.map MV.str).length<1000000:=by rw[lM0];lia
 have e4:aU (BM q w p ↑2 #[as,3] #[m] j f none none none none) (S++U)=.ok (.next (BM q w p ↑2 #[as,3] #[m] j f #[(S++U).length] none none none)) (S++U++[.lst (th.map MV.str)]):=by unfold aU;exists 7,dH E,O,J
 obtain⟨b,r⟩: ∃b,b=S++U++[MO.lst (th.map MV.str)]:=⟨_,rfl⟩
 obtain⟨l,hl⟩: ∃l,l=(S++U).length:=⟨_,rfl⟩
 rw[<-r, <-hl]at e4;have L:b[l]? =#[th.map MV.str,2]:=by rw[r,hl];exact yP _ _
 have Q:b[q]? =#[(c0::cs).map MV.int,2]:=by rw[r,aA];exact WR hq
 obtain⟨n,hn⟩:=KI c0 2147483489 ⟨by decide,by decide⟩ b;have e5:aV (BM q w p ↑2 #[as,3] #[m] j f #[l] none none none) b=.ok (.next (BM q w p ↑2 #[as,3] #[m] j f #[l] #[n,0] none none)) b:=by unfold aV;simp? [gQ Q (show iU ((c0::cs).map MV.int) 0=#[c0,0]from Jv _ _),hn]
 have e6:aW (BM q w p ↑2 #[as,3] #[m] j f #[l] #[n,0] none none) b=.ok (.next (BM q w p ↑2 #[as,3] #[m] j f #[l] #[n,0] #[b.length] none)) (b++[.lst []]):=by unfold aW;exists 7,rfl
 obtain⟨G,M,e,l7,K⟩:=WS (S:=b) (q:=q) (w:=w) (p:=p) (tt:=.tup (ts.map tbl)) (a:=#[as,3]) (tm:=#[m]) (t:=j) (s:=f) L th [] [] n none rfl (List.Sublist.refl _) (by lia);have D:e.length<=6:=ç K.length_le X;have H: ∀T,kS [#[l,1]] (b++T)=.ok #[(th.length:Nat),5] (b++T):=λT=>by rw[vL (WR L),lM0]
 have hr: ∀S,eP [#[(th.length:Nat),5]] S=.ok ⟨(List.range' 0 th.length).map λi=>MV.int (i:Nat),[]⟩ S:=λS=>by rw[lG (by lia),Ĥ,List.range_eq_range']
 have e7:aX (BM q w p ↑2 #[as,3] #[m] j f #[l] #[n,0] #[b.length] none) (b++[.lst []])=.ok (.next (BM q w p ↑2 #[as,3] #[m] j f #[l] #[G,0] #[b.length] M)) (b++[.lst (e.map MV.str)]):=by unfold aX;exists 7,H,hr,l7
 have hg:=yP b (MO.lst (e.map MV.str));have z: ∀y∈e,y∈ws:=λy B=>u.subset (K.subset B)
 have C: ∀(hs:Ch)(g:Nat)(V:Sto),(b++V)[g]? =#[hs.map MV.str,2]->gX (BM q w p ↑2 #[as,3] #[m] j f #[l] #[G,0] #[b.length] M) (b++[.lst (e.map MV.str)])=.ok (.next (BM q w p ↑2 #[as,3] #[m] j f #[l] #[G,0] #[g] M)) (b++V)->yC 5 wQ [#[q,1],#[ts.map tbl,6],#[w,1],#[p,1],#[7,5]] S=.ok (.val (qV hs as)) S:=by
  intro hs g V W e8;have e9:aY (BM q w p (.tup (ts.map tbl)) #[as,3] #[m] j f #[l] #[G,0] #[g] M) (b++V)=.ok (.ret (.val (qV hs as))) (b++V):=by unfold aY qV;exists 7,EU W
  have N:pd (qV hs as)=true:=by unfold qV;rw[eE,wK,wK,VX,eE,eE,EW (λd e=>(Gf d e).1),EW (λd e=>(Ge (A d e)).1)];rfl
  refine nV (T:=U++[.lst (th.map MV.str)]++V) rfl ?_ (Oz N) (λl=>by unfold qV;simp);rw[show S++(U++[MO.lst (th.map MV.str)]++V)=b++V by rw[r];simp only[aA]];show wQ [.loc q,.tup (ts.map tbl),.loc w,.loc p,.int 7] S=_;unfold wQ BD;rw[P,zD e1,zD e2,zD e3,zD e4,zD e5,zD e6,zD e7,zD e8,e9];rfl
 by_cases v:G % 2=1
 .refine⟨e.reverse,as,a1,A,λy B=>hN y (z y (List.mem_reverse.mp B)),by rw[List.length_reverse];exact D,C _ (b++[MO.lst (e.map MV.str)]).length ([.lst (e.map MV.str)]++[.lst (e.reverse.map MV.str)]) (by rw[<-aA];exact yP _ _) ?_⟩;have st:YT (-1) #[b.length,1] none none (b++[.lst (e.map MV.str)])=.ok (.new (e.reverse.map MV.str)) (b++[.lst (e.map MV.str)]):=by unfold YT;rw[kC hg];dsimp only;rw[Qj,iP (fits (by rw[List.length_reverse,lM0];lia)),List.map_reverse]
  unfold gX;simp? [mod_lit (show(0:Int)<2 by decide),dT0 v,st];rw[aA]
 .refine⟨e,as,a1,A,λy B=>hN y (z y B),D,C _ b.length [.lst (e.map MV.str)] hg ?_⟩;unfold gX;simp? [mod_lit (show(0:Int)<2 by decide),dF0 v,fT,iF]
end
def OkP(n B:Nat)(ps:Ch):Prop:=ps.length<=n/\ ∀p∈ps,p.length<=B/\32∉p
theorem OkP.snoc(h:OkP n B ps)(b:p.length<=B)(d:32∉p):OkP (n+1) B (ps++[p]):=by
 refine⟨by rw[lA,lS];have:=h.1;lia,λq a=>?_⟩;rcases ê.mp a with a|a
 .exact h.2 q a
 .rw[mS0.mp a];exact⟨b,d⟩
def Hm{S:Sto}(o)(h:↑5<=l):(S++Z).set l o=S++Z.set (l - ↑5) o:=List.set_append_right _ _ h
def nb32: ¬okS 32:=by unfold okS;omega
noncomputable abbrev T7(qv:MV)(l:Nat)(k t tm kd th:T0):Rho:=[some qv,#[l],k,t,tm,kd,th]
section
theorem Xy(u:↑5<=l): ∀ f ,(∀d∈f,GQ d)-> ∀ Z  n  ps  kd o ,(S++Z)[l]? =#[mS ps,2]->OkP n 32 ps->n+f.length<=1000->
  ∃(p:Sto)(h:Ch)(j m:T0),(S++p)[l]? =#[mS h,2]/\OkP (n+f.length) 32 h/\bA (MU 2 (yR (xY 5) (yR (xY 6) nB))) cY [] f (T7 qv l k t tm kd o) (S++Z)=.ok (.next (T7 qv l k t tm j m)) (S++p)
 |[],_,Z,n,ps,kd,o,hS,hP,_=>⟨Z,ps,kd,o,hS,hP,rfl⟩
 |d::f,hT,Z,n,ps,kd,o,hS,hP,hn=>by
  rw[lC0]at hn;have r:=hT d mF0;have w:l<(S++Z).length:=(gS.mp hS).1;have y:=hP.1;have q:GF #[l,1] [.val (.str (tT d))] (S++Z)=.ok (.val .non) (S++Z.set (l - ↑5) (.lst (mS (ps++[tT d])))):=by rw[vZ hS (by rw[lM0];lia),Hm _ u];unfold mS;rw[ï];rfl
  obtain⟨a,b,A,E⟩: ∃a b,MU 2 (yR (xY 5) (yR (xY 6) nB)) d (T7 qv l k t tm kd o) (S++Z)=.ok (T7 qv l k t tm (some a) (some b)) (S++Z)/\cY (T7 qv l k t tm (some a) (some b)) (S++Z)=.ok (.next (T7 qv l k t tm (some a) (some b))) (S++Z.set (l - ↑5) (.lst (mS (ps++[tT d])))):=by
   rcases r with⟨x,hx,rfl⟩|⟨v,hv,rfl⟩
   .refine⟨.str DR,.str x,rfl,?_⟩;unfold cY mK;rw[Pj]at q ⊢;have hs:YU [.val (.str x)] (S++Z)=.ok (.val (.str x)) (S++Z):=rfl;have i:yH (.val (.str [63])) (.val (.str x)) (S++Z)=.ok (.val (.str (63::x))) (S++Z):=add_str (fits (show 1+x.length<=1000000 by have:=hx.2.1;lia));exists 7,cE hS,Xj,show GE [.val (.bl true)] (S++Z)=.ok #[1,5] (S++Z)from rfl,show sH (.val (.str [63])) #[1,5] (S++Z)=.ok (.val (.str [63])) (S++Z)from rfl,hs,i,q
   .refine⟨.str IS,v,rfl,?_⟩;unfold cY mK;rw[Xl]at q ⊢;have i:yH (.val (.str [])) (.val (.str (wT v))) (S++Z)=.ok (.val (.str (wT v))) (S++Z):=add_str (fits (show 0+(wT v).length<=1000000 by have:=Pg hv;lia));simp? [cE hS,Xk,show GE [.val (.bl false)] (S++Z)=.ok #[0,5] (S++Z)from rfl,show sH (.val (.str [63])) #[0,5] (S++Z)=.ok (.val (.str [])) (S++Z)from rfl,Pi hv,i,q]
  have s:(S++Z.set (l - ↑5) (.lst (mS (ps++[tT d]))))[l]? =#[mS (ps++[tT d]),2]:=by rw[<-Hm _ u,Ċ w]
  obtain⟨p,h,j,m,B,D,F⟩:=Xy (k:=k) (t:=t) (tm:=tm) u f (λe C=>hT e (mO _ C)) _ (n+1) (ps++[tT d]) (some a) (some b) s (hP.snoc (F7 r) (λz=>nb32 (Pk r 32 z))) (by lia);refine⟨p,h,j,m,B,by rw[lC0,show n+(f.length+1)=n+1+f.length by lia];exact D,?_⟩;rw[yM A E (xZ _)];exact F
theorem OkP.app(h:OkP n B ps)(h':OkP m B qs):OkP (n+m) B (ps++qs):=by
 refine⟨by rw[lA];have:=h.1;have:=h'.1;lia,λq a=>?_⟩;rcases ê.mp a with a|a
 .exact h.2 q a
 .exact h'.2 q a
def OkP.le(h:OkP n B ps)(hm:n<=m):OkP m B ps:=⟨ç h.1 hm,h.2⟩
theorem Hn(Q:ZS ts)(O: ∀d∈as,DS ts d): ∀ o P ,as=P++o->o.length<=10-> ∀ Z  l n  ps  k t tm kd f ,↑5<=l->(S++Z)[l]? =#[mS ps,2]->OkP n 32 ps->n+6 * o.length<=500->
  ∃(C:Sto)(w:Nat)(h:Ch)(k' t' u q r:T0),↑5<=w/\(S++C)[w]? =#[mS h,2]/\OkP (n+6 * o.length) 32 h/\bA (xY 2) fX [] ((List.range' P.length o.length).map λi=>MV.int (i:Nat)) (T7 (qV hs as) l k t tm kd f) (S++Z)=.ok (.next (T7 (qV hs as) w k' t' u q r)) (S++C)
 |[],P,_,_,Z,l,n,ps,k,t,tm,kd,f,hl,hS,hP,_=>⟨Z,l,ps,k,t,tm,kd,f,hl,hS,hP,rfl⟩
 |a::o,P,e,hR,Z,l,n,ps,k,t,tm,kd,f,hl,hS,hP,hn=>by
  rw[lC0]at hR;have W:=hP.1;have Y:n<=500:=by lia
  have J:as[P.length]? =some a:=by rw[e,â (à _),sub_self];rfl
  have E:iU as (P.length:Nat)=some a:=by unfold iU QK;rw[iP (by lia),iP (by have:=(gS.mp J).1;lia)];exact J
  obtain⟨i,b,p,rfl,i0,i1,_,h3,h4,h5,F⟩:=O a (ô J)
  have T:i.natAbs<10 ^ 30:=by
   have h4:=Q.2.1;have:i.natAbs<4:=by lia
   exact lt_trans this ↑4
  have aa:b.length<=4:=by lia
  rw[lC0,range'_succ,è];have g:xY 2 (.int (P.length:Nat)) (T7 (qV hs as) l k t tm kd f) (S++Z)=.ok _ (S++Z):=rfl;have b1:mL (T7 (qV hs as) l #[(P.length:Nat),0] t tm kd f) (S++Z)=.ok (.next (T7 (qV hs as) l #[(P.length:Nat),0] #[i,0] #[b,3] kd f)) (S++Z):=by unfold mL qV;exists 7,ix_tup (S:=S++Z) (ds:=[MV.tup (hs.map MV.str),.tup as]) (i:=1) (d:=.tup as) (by rfl),ix_tup (S:=S++Z) E
  obtain⟨sm,j⟩: ∃sm:List (List Nat),sm=if 0<P.length then [[59]]else []:=⟨_,rfl⟩
  have A:(dJ sH (bJ (yJ (kJ (.str [59])) wJ) xU) (bJ (yJ (dJ Sy (vJ 2) (kJ (.int 0))) wJ) GE)) (T7 (qV hs as) l #[(P.length:Nat),0] #[i,0] #[b,3] kd f) (S++Z)=.ok (.new (mS sm)) (S++Z):=by
   by_cases M:0<P.length
   .rw[j,iP M];simp? [lst1,gt_int,dT0 (show(0:Int)<(P.length:Nat) by lia),show GE [.val (.bl true)] (S++Z)=.ok #[1,5] (S++Z)from rfl];rfl
   .rw[j,iN0 M];simp? [lst1,gt_int,dF0 (show¬(0:Int)<(P.length:Nat) by lia),show GE [.val (.bl false)] (S++Z)=.ok #[0,5] (S++Z)from rfl];rfl
  have s:OkP 1 32 sm:=by
   rw[j];split
   .exact⟨à _,λp v=>by rw[mS0.mp v];decide⟩
   .exact⟨zero_le _,λp v=>by cases v⟩
  have I:OkP 1 32 [iD i]:=⟨à _,λp v=>by
   rw[mS0.mp v];obtain⟨f1,f2,_⟩:=KO T;refine⟨by lia,λz=>?_⟩;have:=f1 32 z
   lia⟩
  have b2:BF (T7 (qV hs as) l #[(P.length:Nat),0] #[i,0] #[b,3] kd f) (S++Z)=.ok (.next (T7 (qV hs as) (S++Z).length #[(P.length:Nat),0] #[i,0] #[b,3] kd f)) (S++Z++[.lst (mS (ps++sm++[iD i]))]):=by
   have a1:yH #[l,1] (.new (mS sm)) (S++Z)=.ok (.new (mS (ps++sm))) (S++Z):=by unfold mS;rw[ï];exact lF (vM hS) rfl (fits (by rw[lM0,lM0];have:=s.1;lia))
   have a2:yH (.new (mS (ps++sm))) (.new [.str (iD i)]) (S++Z)=.ok (.new (mS (ps++sm++[iD i]))) (S++Z):=by unfold mS;rw[ï (l₁:=ps++sm)];exact lF rfl rfl (fits (show((ps++sm).map MV.str).length+1<=1000000 by rw[lM0,lA];have:=s.1;lia))
   have H:YU [#[i,5]] (S++Z)=.ok (.val (.str (iD i))) (S++Z):=Pi (Pl T) _;have G: ∀m:AX,m (T7 (qV hs as) l #[(P.length:Nat),0] #[i,0] #[b,3] kd f) (S++Z)=.ok (.new (mS sm)) (S++Z)->CJ (dJ yH (dJ yH (vJ 1) m) (bJ (yJ (bJ (yJ (vJ 3) wJ) YU) wJ) xU)) 1 (T7 (qV hs as) l #[(P.length:Nat),0] #[i,0] #[b,3] kd f) (S++Z)=.ok (.next (T7 (qV hs as) (S++Z).length #[(P.length:Nat),0] #[i,0] #[b,3] kd f)) (S++Z++[.lst (mS (ps++sm++[iD i]))]):=λm hm=>by exists 7,hm,a1,H,a2
   exact G _ A
  have L:(S++(Z++[MO.lst (mS (ps++sm++[iD i]))]))[(S++Z).length]? =#[mS (ps++sm++[iD i]),2]:=by rw[<-aA];exact yP _ _
  obtain⟨K,D,y,B,q1,X,U⟩:=Xy (S:=S) (qv:=qV hs as) (l:=(S++Z).length) (k:=#[(P.length:Nat),0]) (t:=#[i,0]) (tm:=#[b,3]) (by rw[lA];lia) b F _ (n+1+1) _ kd f L ((hP.app s).app I) (by lia);have b3:mP (T7 (qV hs as) (S++Z).length #[(P.length:Nat),0] #[i,0] #[b,3] kd f) (S++Z++[.lst (mS (ps++sm++[iD i]))])=.ok (.next (T7 (qV hs as) (S++Z).length #[(P.length:Nat),0] #[i,0] #[b,3] y B)) (S++K):=by unfold mP;simp? [IQ];rw[aA];exact U
  obtain⟨C,w,h,k',t',u,q,r,r0,r1,r2,N⟩:=Hn (hs:=hs) Q O o (P++[.tup [.int i,.tup b]]) (by rw[e,aA];rfl) (by lia) K (S++Z).length (n+6) D #[(P.length:Nat),0] #[i,0] #[b,3] y B (by rw[lA];lia) q1 (X.le (by lia)) (by rw[lC0]at hn;lia);rw[lA,lS]at N;refine⟨C,w,h,k',t',u,q,r,r0,r1,r2.le (by lia),?_⟩;rw[yM g (show fX (T7 (qV hs as) l #[(P.length:Nat),0] t tm kd f) (S++Z)=.ok _ (S++K) by unfold fX;rw[zD b1,zD b2,b3]) (xZ _)];exact N
theorem Wg(H:ZS ts)(E: ∀d∈as,DS ts d)(K:as.length<=4)(r: ∀y∈hs,Nm y)(J:hs.length<=6)(S): ∃ps,OkP 31 32 ps/\yC 1 rV [.val (qV hs as)] S=.ok (.new (mS ps)) S:=by
 obtain⟨b,e⟩: ∃b,b=hs.map (λy=>63::y)++[[58]]:=⟨_,rfl⟩
 have s:OkP 7 32 b:=by
  rw[e];refine⟨by rw[lA,lM0,lS];lia,λp f=>?_⟩;rcases ê.mp f with f|f
  .obtain⟨y,m,rfl⟩:=mM0.mp f;have:=r y m;refine⟨by rw[lC0];have:=this.2.1;lia,λz=>?_⟩;rcases mC.mp z with z|z
   .lia
   .have:=this.2.2 32 z;lia
  .rw[mS0.mp f];decide
 have A:xV (xY 0) BE mI [none] [] (hs.map MV.str) S=.ok _ S:=PZ MV.str (λy=>MV.str (63::y)) (xZ _) hs λy m=>⟨[#[y,4]],rfl,rfl,by unfold mI;have j:yH (.val (.str [63])) (.val (.str y)) S=.ok (.val (.str (63::y))) S:=add_str (fits (show 1+y.length<=1000000 by have:=(r y m).2.1;lia));exists 7,j⟩
 have n:(hs.map MV.str).length<1000000:=by rw[lM0];lia
 have h:yH (.new (hs.map λy=>MV.str (63::y))) (.new [.str [58]]) S=.ok (.new (mS b)) S:=by rw[show mS b=_++[.str [58]]from by rw[e];unfold mS;rw[ï,Ē];rfl];exact lF rfl rfl (fits (show(hs.map λy=>MV.str (63::y)).length+1<=1000000 by rw[lM0];lia))
 have w:tM [some (qV hs as),none,none,none,none,none,none] S=.ok (.next (T7 (qV hs as) ↑5 none none none none none)) (S++[.lst (mS b)]):=by unfold tM qV;exists 7,ix_tup (S:=S) (i:=0) (Jv _ _),IQ,n,show∀a,vD 1 [] [some a,none,none,none,none,none,none]=[none]from λ_=>rfl,A,h
 obtain⟨Z,l,ps,k,t,o,kd,q,u,I,G,v⟩:=Hn (S:=S) (hs:=hs) H E as [] rfl (by lia) [.lst (mS b)] ↑5 7 b none none none none none (à _) (yP _ _) s (by lia);have F: ∀S:Sto,eP [#[((as.length:Nat):Int),5]] S=.ok ⟨(List.range' 0 as.length).map λk=>.int (k:Nat),[]⟩ S:=λS=>by rw[lG (by lia),Ĥ,List.range_eq_range']
 have B:tN (T7 (qV hs as) ↑5 none none none none none) (S++[.lst (mS b)])=.ok (.next (T7 (qV hs as) l k t o kd q)) (S++Z):=by unfold tN;exists 7,show∀S:Sto,gL (.val (qV hs as)) #[1,5] S=.ok #[as,6] S from λS=>ix_tup (S:=S) (i:=1) (d:=.tup as) (by rfl),gY,F,v
 have C:FY (T7 (qV hs as) l k t o kd q) (S++Z)=.ok (.ret #[l,1]) (S++Z):=rfl;refine⟨ps,G.le (by lia),DQ (T:=Z) (as:=[qV hs as]) rfl rfl ?_ (.inr ⟨l,rfl,u,I⟩) (kN λd D=>?_)⟩
 .show xF (DG [some (qV hs as),none,none,none,none,none,none] S)=_;unfold DG;rw[zD w,zD B,C];rfl
 .obtain⟨p,_,rfl⟩:=mM0.mp D;exact dS _ _
end
def OkP.sub(h:OkP n B ps)(hs: ∀p∈qs,p∈ps)(hm:qs.length<=m):OkP m B qs:=⟨hm,λp a=>h.2 p (hs p a)⟩
def OkP.wide(h:OkP n B ps)(b:B<=C):OkP n C ps:=⟨h.1,λp a=>⟨ç (h.2 p a).1 b,(h.2 p a).2⟩⟩
theorem Ho(b:c∉y): ∀d:List (List Nat),(∀z∈d,c∉z)->c∉yX y d
 |[],_=>by simp[yX]
 |[x],h=>h x mF0
 |x::z::r,h=>by
  have:=Ho b _ λw hw=>h w (mO _ hw);show c∉x++y++yX y _;intro a;rcases ê.mp a with a|a
  .rcases ê.mp a with a|a
   .exact h x mF0 a
   .exact b a
  .exact this a
section
def Jy(b:S[q]? =#[mS ps,2])(a:Nat):wU #[q,1] none (some  a ) S=.ok (.new (mS (ps.take a))) S:=by rw[rY b,TX];unfold mS;rw[map_take]
def cutD(b:S[q]? =#[mS ps,2])(a:Nat):wU #[q,1] (some  a ) none S=.ok (.new (mS (ps.drop a))) S:=by rw[rY b,TY];unfold mS;rw[map_drop]
theorem cutM(d:S[q]? =#[mS ps,2])(a:Nat): ∃b:List (List Nat),b.length<=2/\(∀z∈b,z∈ps)/\wU #[q,1] (some  a ) (some ( a +2)) S=.ok (.new (mS b)) S:=by
 rw[rY d];unfold cU mS;rw[show(_+2)=((a+2:Nat):Int) by lia,HT.sIx_nat,HT.sIx_nat, <-map_drop, <-map_take];refine⟨_,?_,?_,rfl⟩
 .rw[lT];omega
 .intro z e;exact mem_of_mem_drop (mem_of_mem_take e)
end
theorem at1(a b)(r:List α):iU (a::b::r) 1=some b:=by unfold iU QK;rw[iP ↑4,iP (by simp only[lC0];lia)];rfl
theorem at2(a b c)(r:List α):iU (a::b::c::r) 2=some c:=by unfold iU QK;rw[iP ↑4,iP (by simp only[lC0];lia)];rfl
noncomputable def QB:List (List Nat):=[[58],[59],[63],[63,63,97],[63,65],[63,97,98,99,100,101,102,103,104,105],[],[48],[49],[51],[52],[45,49],[45,48],[48,49],[97],[65],[97,49],[120,63]]
noncomputable def L8(a b c:Db):List (List Nat):=[63::a,b,63::c,[63,49],[97,98,99,100,101,102,103,104],[97,98,99,100,101,102,103,104,105],List.replicate 30 57,List.replicate 31 57]
noncomputable def L4:List (List Nat):=[[63,59],[58,63],[55],[43,55]]
def Qr(h:Nm x):x.length<=8/\32∉x:=⟨h.2.1,λz=>by have:=h.2.2 32 z;omega⟩
theorem N8(h:Nm a)(f:Nm b)(d:Nm c):OkP 30 32 (QB++L8 a b c++L4):=by
 have i:OkP 18 32 QB:=⟨by decide,by decide⟩
 have k:OkP 4 32 L4:=⟨by decide,by decide⟩
 have j:OkP 8 32 (L8 a b c):=by
  refine⟨by simp[L8],λp e=>?_⟩;have h:=Qr h;have f:=Qr f;have d:=Qr d;unfold L8 at e;simp only[mC,nM,or_false]at e;rcases e with rfl|rfl|rfl|rfl|rfl|rfl|rfl|rfl
  .refine⟨by rw[lC0];lia,λz=>?_⟩;rcases mC.mp z with z|z
   .lia
   .exact h.2 z
  .exact⟨by lia,f.2⟩
  .refine⟨by rw[lC0];lia,λz=>?_⟩;rcases mC.mp z with z|z
   .lia
   .exact d.2 z
  .decide
  .decide
  .decide
  .decide
  .decide
 exact(i.app j).app k
def Qs(h:l<↑5):oE S #[l,1] (S++T)=.ok #[l,1] S:=by
 unfold oE;rw[iP IB];have e:(S++T).take ↑5=S:=by simp
 dsimp only;rw[iP h,e]
noncomputable abbrev V8(q c w:MV)(n s p a y:T0):Rho:=[some q,some c,some w,n,s,p,a,y]
section
variable{ws:Ch}
theorem Wh(c)(hS:S[q]? =#[mS ps,2])(M:OkP n B ps)(hn:n<=500)(hB:32<=B)(ao:B<=400)(hw:S[w]? =#[ws.map MV.str,2])(h6:ws.length=6)(hN: ∀y∈ws,Nm y): ∃j,OkP (n+1) (2 * B) j/\(yC 3 nK [#[q,1],#[c,5],#[w,1]] S=.ok (.new (mS j)) S\/j=ps/\yC 3 nK [#[q,1],#[c,5],#[w,1]] S=.ok #[q,1] S):=by
 obtain⟨m,hm⟩:=KI c 2147483587 ⟨by decide,by decide⟩ S
 obtain⟨o,s,k,wr,rfl⟩: ∃a b d r,ws=a::b::d::r:=by
  match ws,h6 with
  |a::b::d::r,_=>exact⟨a,b,d,r,rfl⟩
 have n0:=hN o mF0;have n1:=hN s (mO _ mF0);have n2:=hN k (mO _ (mO _ mF0));have e1:tQ (V8 (.loc q) (.int c) (.loc w) none none none none none) S=.ok (.next (V8 (.loc q) (.int c) (.loc w) #[m,0] none none none none)) S:=by unfold tQ;exists 7,hm
 have e2:FZ (V8 (.loc q) (.int c) (.loc w) #[m,0] none none none none) S=.ok (.next (V8 (.loc q) (.int c) (.loc w) #[m,0] #[↑5] none none none)) (S++[.lst (mS QB)]):=rfl;have O7: ∀Z,(S++Z)[w]? =#[(o::s::k::wr).map MV.str,2]:=λZ=>AB hw;have g0:=yP S (MO.lst (mS QB))
 have e3:tR (V8 (.loc q) (.int c) (.loc w) #[m,0] #[↑5] none none none) (S++[.lst (mS QB)])=.ok (.next (V8 (.loc q) (.int c) (.loc w) #[m,0] #[↑5+1] none none none)) (S++[.lst (mS QB),.lst (mS (QB++L8 o s k))]):=by
  have J: ∀(x:Db)(S:Sto),Nm x->yH (.val (.str [63])) (.val (.str x)) S=.ok (.val (.str (63::x))) S:=λx S hx=>add_str (fits (show 1+x.length<=1000000 by have:=hx.2.1;omega));have af: ∀S,xU [.val (.str (63::o)),.val (.str s),.val (.str (63::k)),.val (.str [63,49]),.val (.str [97,98,99,100,101,102,103,104]),.val (.str [97,98,99,100,101,102,103,104,105]),.val (.str (List.replicate 30 57)),.val (.str (List.replicate 31 57))] S=.ok (.new (mS (L8 o s k))) S:=λS=>hX (by simp);have Y:yH #[↑5,1] (.new (mS (L8 o s k))) (S++[.lst (mS QB)])=.ok (.new (mS (QB++L8 o s k))) (S++[.lst (mS QB)]):=by unfold mS;rw[ï];exact lF (vM g0) rfl (fits (show 18+8<=1000000 by decide))
  unfold tR;simp? [gQ (O7 _) (show iU ((o::s::k::wr).map MV.str) 0=#[o,4]from Jv _ _),gQ (O7 _) (show iU ((o::s::k::wr).map MV.str) 1=#[s,4]from by rw[è,è];exact at1 _ _ _),gQ (O7 _) (show iU ((o::s::k::wr).map MV.str) 2=#[k,4]from by rw[è,è,è];exact at2 _ _ _ _),J _ _ n0,J _ _ n2,show∀S,sH (.val (.str [57])) #[30,5] S=.ok (.val (.str (List.replicate 30 57))) S from λ_=>rfl,show∀S,sH (.val (.str [57])) #[31,5] S=.ok (.val (.str (List.replicate 31 57))) S from λ_=>rfl,af,Y];rw[aA,lA];rfl
 obtain⟨L,hL⟩: ∃L,L=QB++L8 o s k++L4:=⟨_,rfl⟩
 have ai:OkP 30 32 L:=by rw[hL];exact N8 n0 n1 n2
 have aa:L.length=30:=by rw[hL];simp[QB,L8,L4]
 obtain⟨f,A⟩: ∃f,f=S++[MO.lst (mS QB),.lst (mS (QB++L8 o s k)),.lst (mS L)]:=⟨_,rfl⟩
 have g3:f[↑5+2]? =#[mS L,2]:=by rw[A];exact QA (i:=2) rfl
 have t:f[q]? =#[mS ps,2]:=by rw[A];exact AB hS
 have e4:tS (V8 (.loc q) (.int c) (.loc w) #[m,0] #[↑5+1] none none none) (S++[.lst (mS QB),.lst (mS (QB++L8 o s k))])=.ok (.next (V8 (.loc q) (.int c) (.loc w) #[m,0] #[↑5+2] none none none)) f:=by
  have ah: ∀S,xU [.val (.str [63,59]),.val (.str [58,63]),.val (.str [55]),.val (.str [43,55])] S=.ok (.new (mS L4)) S:=λS=>hX (by simp);have Y:yH #[↑5+1,1] (.new (mS L4)) (S++[.lst (mS QB),.lst (mS (QB++L8 o s k))])=.ok (.new (mS L)) (S++[.lst (mS QB),.lst (mS (QB++L8 o s k))]):=by rw[hL];unfold mS;rw[ï (l₁:=QB++L8 o s k)];exact lF (vM (Qh _ _ _)) rfl (fits (show 26+4<=1000000 by decide))
  unfold tS;simp? [ah,Y];rw[A,aA,lA];rfl
 obtain⟨d,hd⟩:=dF (xs:=mS L) (i:=m / 8 % 30) (eN _ ↑4) (by rw[lM0,aa];exact eL _ ↑4);obtain⟨x,hx,rfl⟩: ∃y,(y.length<=32/\32∉y)/\d=.str y:=dG (P:=λd=> ∃y:List Nat,(y.length<=32/\32∉y)/\d=.str y) (λe he=>by obtain⟨u,hu,rfl⟩:=mM0.mp he;exact⟨u,ai.2 u hu,rfl⟩) hd;have e5:tU (V8 (.loc q) (.int c) (.loc w) #[m,0] #[↑5+2] none none none) f=.ok (.next (V8 (.loc q) (.int c) (.loc w) #[m,0] #[↑5+2] #[x,4] none none)) f:=by unfold tU;exists 7,xG (b:=8) ↑4 ↑4,mod_lit (show(0:Int)<30 by decide),gQ g3 hd
 have ak:=M.1;have C:(0:Int)<(ps.length:Nat)+1:=by omega
 obtain⟨a,Y,aj⟩: ∃a:Nat,m / 240 % ((ps.length:Nat)+1:Int)=(a:Int)/\a<=ps.length:=by have h0:=eN (m / 240) (show((ps.length:Nat)+1:Int)≠0 by omega);have h1:=eL (m / 240) C;exact⟨(m / 240 % ((ps.length:Nat)+1:Int)).toNat,by omega,by omega⟩
 have e6:tV (V8 (.loc q) (.int c) (.loc w) #[m,0] #[↑5+2] #[x,4] none none) f=.ok (.next (V8 (.loc q) (.int c) (.loc w) #[m,0] #[↑5+2] #[x,4] #[(a:Int),0] none)) f:=by unfold tV;simp? [xG (b:=240) ↑4 ↑4,vL t,lM0,add_int,mod_lit C,Y]
 obtain⟨y,hy⟩: ∃y,y=m % 8:=⟨_,rfl⟩
 have e7:tW (V8 (.loc q) (.int c) (.loc w) #[m,0] #[↑5+2] #[x,4] #[(a:Int),0] none) f=.ok (.next ↑3) f:=by unfold tW;simp? [mod_lit (show(0:Int)<8 by decide),hy]
 have xP:OkP 1 (2 * B) [x]:=⟨à _,λp I=>by rw[mS0.mp I];exact⟨by have:=hx.1;omega,hx.2⟩⟩
 have E:OkP n (2 * B) ps:=M.wide (by omega);have W: ∀a,OkP (min a ps.length) (2 * B) (ps.take a):=λa=>E.sub (λp I=>mem_of_mem_take I) (by rw[lT];exact à _);have N: ∀a,OkP (ps.length - a) (2 * B) (ps.drop a):=λa=>E.sub (λp I=>mem_of_mem_drop I) (by rw[ú];exact à _);have ae:wU #[q,1] none (some ((a:Int)+1)) f=.ok (.new (mS (ps.take (a+1)))) f:=by rw[show((a:Int)+1)=((a+1:Nat):Int) by omega];exact Jy t _
 have K:wU #[q,1] (some ((a:Int)+1)) none f=.ok (.new (mS (ps.drop (a+1)))) f:=by rw[show((a:Int)+1)=((a+1:Nat):Int) by omega];exact cutD t _
 have ab:wU #[q,1] (some ((a:Int)+2)) none f=.ok (.new (mS (ps.drop (a+2)))) f:=by rw[show((a:Int)+2)=((a+2:Nat):Int) by omega];exact cutD t _
 have D: ∀(u v:Ch),u.length<=2000->v.length<=2000->yH (.new (mS u)) (.new (mS v)) f=.ok (.new (mS (u++v))) f:=λu v hu hv=>by unfold mS;rw[ï];exact lF rfl rfl (fits (show(u.map MV.str).length+(v.map MV.str).length<=1000000 by rw[lM0,lM0];omega))
 have Q: ∀(u:Ch)(z:Db),u.length<=2000->yH (.new (mS u)) (.new [.str z]) f=.ok (.new (mS (u++[z]))) f:=λu z hu=>D u [z] hu (by simp);have l1: ∀z,xU [.val (.str z)] f=.ok (.new (mS [z])) f:=λz=>lst1 _ _;have lt: ∀a,(ps.take a).length<=500:=λa=>by rw[lT];omega
 have U: ∀a,(ps.drop a).length<=500:=λa=>by rw[ú];omega
 suffices h:(∃j,OkP (n+1) (2 * B) j/\(zM jI (zM jK (zM kD (zM kE (zM kG eA))))) ↑3 f=.ok (.ret (.new (mS j))) f)\/(zM jI (zM jK (zM kD (zM kE (zM kG eA))))) ↑3 f=.ok (.ret #[q,1]) f by
  have hF: ∀r,(zM jI (zM jK (zM kD (zM kE (zM kG eA))))) ↑3 f=.ok (.ret r) f->nK [.loc q,.int c,.loc w] S=.ok r f:=λr hr=>by show xF (DH (V8 (.loc q) (.int c) (.loc w) none none none none none) S)=_;unfold DH;rw[zD e1,zD e2,zD e3,zD e4,zD e5,zD e6,zD e7,hr];rfl
  rcases h with⟨j,h1,X⟩|X
  .refine⟨j,h1,.inl (DQ (as:=[.loc q,.int c,.loc w]) (T:=[MO.lst (mS QB),.lst (mS (QB++L8 o s k)),.lst (mS L)]) (r:=.new (mS j)) rfl rfl (by rw[<-A];exact hF _ X) (.inl rfl) (kN λd hd=>?_))⟩;obtain⟨p,_,rfl⟩:=mM0.mp hd;exact dS _ _
  .refine⟨ps,(E.le (by omega)),.inr ⟨rfl,?_⟩⟩;have ag:=(gS.mp hS).1;unfold yC;rw[iP (show [Er.val (.loc q),#[c,5],#[w,1]].length=3 from rfl),show yB [#[q,1],#[c,5],#[w,1]] S=([.loc q,.int c,.loc w],S)from rfl];dsimp only;rw[hF _ X,xO,cW,A];exact Qs ag
 have O: ∀{F G:AY}{j:Ch},OkP (n+1) (2 * B) j->F ↑3 f=.ok (.ret (.new (mS j))) f-> ∃j,OkP (n+1) (2 * B) j/\zM F G ↑3 f=.ok (.ret (.new (mS j))) f:=λh1 X=>⟨_,h1,yL X⟩
 by_cases y0:y=0
 .refine .inl (O (((W a).app (N (a+1))).le (by omega)) ?_);unfold jI;simp? [eq_int,dT0 y0,Jy t,add_int,K,D _ _ (ç (lt a) ↑4) (ç (U (a+1)) ↑4)]
 .rw[zD (show jI ↑3 f=.ok (.next ↑3) f by unfold jI;simp? [eq_int,dF0 y0,fT,iF])];by_cases y1:y=1
  .refine .inl (O (((W (a+1)).app (N a)).le (by omega)) ?_);unfold jK;simp? [eq_int,dT0 y1,add_int,ae,cutD t,D _ _ (ç (lt (a+1)) ↑4) (ç (U a) ↑4)]
  .rw[zD (show jK ↑3 f=.ok (.next ↑3) f by unfold jK;simp? [eq_int,dF0 y1,fT,iF])];by_cases y2:y<4
   .refine .inl (O ((((W a).app xP).app (N (a+1))).le (by omega)) ?_);unfold kD;simp? [lt_int,dT0 y2,Jy t,l1,add_int,K,Q _ x (ç (lt a) ↑4),D (ps.take a++[x]) _ (by rw[lA,lS];have:=lt a;omega) (ç (U (a+1)) ↑4)]
   .rw[zD (show kD ↑3 f=.ok (.next ↑3) f by unfold kD;simp? [lt_int,dF0 y2,fT,iF])];by_cases y3:y<6
    .refine .inl (O ((((W a).app xP).app (N a)).le (by omega)) ?_);unfold kE;simp? [lt_int,dT0 y3,Jy t,l1,cutD t,Q _ x (ç (lt a) ↑4),D (ps.take a++[x]) _ (by rw[lA,lS];have:=lt a;omega) (ç (U a) ↑4)]
    .rw[zD (show kE ↑3 f=.ok (.next ↑3) f by unfold kE;simp? [lt_int,dF0 y3,fT,iF])];by_cases y4:y=6
     .obtain⟨H,z1,z2,z3⟩:=cutM t a;have hj:oF (.val (.str [])) [.new (mS H)] f=.ok (.val (.str (yX [] H))) f:=WA (by simp) (by omega) (λz C=>by have:=(M.2 z (z2 z C)).1;omega) f;have jl:=KP (y:=[]) (B:=B) H λz C=>(M.2 z (z2 z C)).1;have jP:OkP 1 (2 * B) [yX [] H]:=⟨à _,λp I=>by rw[mS0.mp I];refine⟨ç jl (by rw[ë,Nat.add_zero];exact Nat.mul_le_mul_right _ z1),Ho (by simp) H λz C=>(M.2 z (z2 z C)).2⟩⟩
      refine .inl (O ((((W a).app jP).app (N (a+2))).le (by omega)) ?_);unfold kG;simp? [eq_int,dT0 y4,Jy t,add_int,cF,z3,hj,l1,ab,D (ps.take a) [yX [] H] (ç (lt a) ↑4) (by simp),D (ps.take a++[yX [] H]) _ (by rw[lA,lS];have:=lt a;omega) (ç (U (a+2)) ↑4)]
     .rw[zD (show kG ↑3 f=.ok (.next ↑3) f by unfold kG;simp? [eq_int,dF0 y4,fT,iF])];exact .inr rfl
end
theorem AD(ns:Za)(k)(n:0<=k)(S): ∃c,yC 2 yG [.val (.scr (ns.map MV.int)),#[k,5]] S=.ok #[c,5] S:=by
 have f:kS [.val (.scr (ns.map MV.int))] S=.ok #[ns.length,5] S:=by show R.ok _ S=_;rw[lM0]
 have i:fE [some (.scr (ns.map MV.int)),#[k,0]] S=if decide (k<ns.length)=true then(gL (.val (.scr (ns.map MV.int))) #[k,5] S).bind λr p=>.ok (.ret r) p else .ok (.next [some (.scr (ns.map MV.int)),#[k,0]]) S:=by unfold fE;exists 7,f,lt_int
 have b: ∀c,yG [.scr (ns.map MV.int),.int k] S=.ok _ S-> ∃c,yC 2 yG [.val _,.val _] S=.ok (.val _) S:=λc h=>⟨c,eZ rfl h (sI _ _) (λl=>by simp)⟩
 have hs:zU [ŋ,Ő] [.scr (ns.map MV.int),.int k]=[some _,some _]:=rfl;by_cases a:k<ns.length
 .obtain⟨d,m⟩:=dF (xs:=ns.map MV.int) n (by rw[lM0];exact a);obtain⟨c,rfl⟩: ∃c,d=.int c:=dG (P:=λd=> ∃c,d=.int c) (λe o=>by obtain⟨c,_,rfl⟩:=mM0.mp o;exact⟨c,rfl⟩) m;have j:gL (.val (.scr (ns.map MV.int))) #[k,5] S=.ok #[c,5] S:=by show(match iU _ k with |some d=>R.ok (Er.val d) S|none=>.no)=_;rw[m]
  refine b c ?_;rw[dT0 a,iP rfl,j,cW]at i;unfold yG pN;rw[hs,yL i];rfl
 .refine b 0 ?_;rw[dF0 a,iN0 xF0]at i;unfold yG pN;rw[hs,zD i];rfl
def Ak(e:S[l]? =#[mS zs,2])(b:y.length<=100)(d:zs.length<=1000)(a: ∀z∈zs,z.length<=900):oF (.val (.str y)) [#[l,1]] S=.ok (.val (.str (yX y zs))) S:=by unfold oF;dsimp only;rw[kC e];dsimp only;rw[PM];exact iP ⟨b,d,a⟩
theorem cnt_join: ∀a:List (List Nat),(∀z∈a,32∉z)->(yX [32] a).count 32<=a.length
 |[],_=>by simp[yX]
 |[x],h=>by show x.count 32<=_;rw[List.count_eq_zero_of_not_mem (h x mF0)];exact zero_le _
 |x::z::r,h=>by
  have:=cnt_join _ λw hw=>h w (mO _ hw);show(x++[32]++yX [32] _).count 32<=_;rw[List.count_append,List.count_append,List.count_eq_zero_of_not_mem (h x mF0),lC0];have:[32].count 32=1:=rfl
  lia
theorem Al(ns:Za)(S): ∀(L:Db), ∃a:List Int,a.length=L.length/\xV (xY 0) KE ES [none,some (.scr (ns.map MV.int))] [] (L.map λk=>MV.int (k:Nat)) S=.ok (a.map MV.int) S
 |[]=>⟨[],rfl,rfl⟩
 |k::L=>by
  obtain⟨a,b,d⟩:=Al ns S L;obtain⟨c,f⟩:=AD ns (3+(k:Nat)) (by lia) S;refine⟨c::a,by rw[lC0,lC0,b],?_⟩;have e:ES [#[(k:Nat),0],some (.scr (ns.map MV.int))] S=.ok #[c,5] S:=by unfold ES;exists 7,f
  rw[è];unfold xV;rw[show xY 0 _ [none,some _] S=.ok [some _,some _] S from rfl,xO,cW,show KE [some _,some _] S=.ok true S from rfl,xO,cW,e,xO,cW];unfold dR;rw[cW,iP (xZ _),d];rfl
noncomputable abbrev WT(ns:Za)(tt:MV)(m:T0)(p:Nat)(k b t h:T0):Rho:=[some (.scr (ns.map MV.int)),#[0],#[1],some tt,m,#[2],#[p],k,b,t,h]
section
variable{ws:Ch}
theorem Hq(b:OkP n B ps)(j:n<=40)(h:B<=400):(yX [32] ps).length<=20000/\(yX [32] ps).count 32<=40:=by have d:=KP (y:=[32]) ps λz a=>(b.2 z a).1;have f:=cnt_join ps λz a=>(b.2 z a).2;have i:=b.1;have e:ps.length * (B+1)<=40 * 401:=Nat.mul_le_mul (by lia) (by lia);refine⟨ç d (ç e ↑4),by lia⟩
theorem QC(hk:k<3)(M:ZS ts)(hw:S[0]? =#[ws.map MV.str,2])(Q:ws.length=6)(X: ∀y∈ws,Nm y)(u:S[p]? =#[mS ps,2])(Y:OkP n B ps)(hn:n<=36)(O:32<=B)(aa:B<=128):
  ∃(Z:Sto)(o:Nat)(f:Ch)(b' t':T0),(S++Z)[o]? =#[mS f,2]/\OkP (n+1) (2 * B) f/\MZ (WT ns ↑2 m p #[(k:Nat),0] b t h) S=.ok (.next (WT ns ↑2 m o (some (.int  k )) b' t' h)) (S++Z):=by
 obtain⟨c,J⟩:=AD ns (8+(k:Nat)) (by lia) S;obtain⟨f,q,w⟩:=Wh c u Y (by lia) O (by lia) hw Q X
 obtain⟨Z,o,r,I⟩: ∃(Z:Sto)(o:Nat),(S++Z)[o]? =#[mS f,2]/\ET (WT ns ↑2 m p #[(k:Nat),0] b t h) S=.ok (.next (WT ns ↑2 m o #[(k:Nat),0] b t h)) (S++Z):=by
  rcases w with w|⟨rfl,w⟩
  .refine⟨[.lst (mS f)],↑5,yP _ _,?_⟩;unfold ET;exists 7,J,w
  .refine⟨[],p,by rw[aN];exact u,?_⟩;unfold ET;rw[aN];exists 7,J,w
 obtain⟨j,s⟩: ∃j,j=S++Z:=⟨_,rfl⟩
 rw[<-s]at r I;obtain⟨F,E⟩:=AD ns 11 ↑4 j;obtain⟨d,L⟩:=dF (xs:=[MV.str [32],.str [32,32],.str [32]]) (i:=F / ((k:Nat)+1:Int) % 7 % 3) (eN _ ↑4) (eL _ ↑4)
 obtain⟨x,hx,rfl⟩: ∃x:List Nat,(x.length<=2)/\d=.str x:=dG (P:=λd=> ∃x:List Nat,x.length<=2/\d=.str x) (λe K=>by
  simp only[mC,nM,or_false]at K;rcases K with rfl|rfl|rfl
  .exact⟨_,by decide,rfl⟩
  .exact⟨_,by decide,rfl⟩
  .exact⟨_,by decide,rfl⟩) L
 have e2:KF (WT ns ↑2 m o #[(k:Nat),0] b t h) j=.ok (.next (WT ns ↑2 m o #[(k:Nat),0] #[x,4] t h)) j:=by unfold KF;simp? [B4,E,add_int,xG (show(0:Int)<(k:Nat)+1 by lia) (by lia),mod_lit (show(0:Int)<7 by decide),mod_lit (show(0:Int)<3 by decide),B3 L]
 have C:OkP 3 (2 * B) (f.take 3):=q.sub (λp u=>mem_of_mem_take u) (by rw[lT];lia);have D:OkP (n+1) (2 * B) (f.drop 3):=q.sub (λp u=>mem_of_mem_drop u) (by rw[ú];have:=q.1;lia);have t1:=Hq C (by lia) (by lia);have t2:=Hq D (by lia) (by lia);have t0:=Hq q (by lia) (by lia);have j1:oF (.val (.str [32])) [.new (mS (f.take 3))] j=.ok (.val (.str (yX [32] (f.take 3)))) j:=WA (by simp) (by have:=C.1;lia) (λz v=>by have:=(C.2 z v).1;lia) j;have W:oF (.val (.str [32])) [.new (mS (f.drop 3))] j=.ok (.val (.str (yX [32] (f.drop 3)))) j:=WA (by simp) (by have:=D.1;lia) (λz v=>by have:=(D.2 z v).1;lia) j;have T:oF (.val (.str [32])) [#[o,1]] j=.ok (.val (.str (yX [32] f))) j:=Ak r (by simp) (by have:=q.1;lia) (λz v=>by have:=(q.2 z v).1;lia);obtain⟨U,G⟩: ∃U,U=yX [32] (f.take 3)++x++yX [32] (f.drop 3):=⟨_,rfl⟩
 have H:U.length<=50000:=by rw[G,lA,lA];lia
 have A:U.count 32<=800:=by
  rw[G,List.count_append,List.count_append];have:=List.count_le_length (a:=32) (l:=x)
  lia
 have a1:yH (.val (.str (yX [32] (f.take 3)))) (.val (.str x)) j=.ok (.val (.str (yX [32] (f.take 3)++x))) j:=add_str (fits (by lia));have a2:yH (.val (.str (yX [32] (f.take 3)++x))) (.val (.str (yX [32] (f.drop 3)))) j=.ok (.val (.str U)) j:=by rw[G];exact add_str (fits (by rw[lA];lia))
 have N:KG (WT ns ↑2 m o #[(k:Nat),0] #[x,4] t h) j=.ok (.next (WT ns ↑2 m o #[(k:Nat),0] #[x,4] #[U,4] h)) j:=by have c1:wU #[o,1] none (some 3) j=.ok (.new (mS (f.take 3))) j:=Jy r 3;have F:wU #[o,1] (some 3) none j=.ok (.new (mS (f.drop 3))) j:=cutD r 3;unfold KG;exists 7,cF,c1,j1,a1,F,W,a2
 have e4:KH (WT ns ↑2 m o #[(k:Nat),0] #[x,4] #[U,4] h) j=.ok (.next (WT ns ↑2 m o #[(k:Nat),0] #[x,4] #[U,4] h)) j:=by unfold KH;simp? [WQ M H A,cF,T,WQ M (by lia) (show(yX [32] f).count 32<=800 by lia),ø,fT,iF]
 refine⟨Z,o,f,#[x,4],#[U,4],by rw[<-s];exact r,q,?_⟩;unfold MZ;rw[zD I,zD e2,zD N,e4,s]
end
def IT{ts:Tk}(hi:bF [.val th,.val (.typ "str")] (S++[.lst []])=.ok (.val (.bl false)) (S++[.lst []])):VL (WT ns ↑2 m p k b t (some th)) S=.ok (.next (WT ns ↑2 m p k b t (some th))) S:=by unfold VL TJ;exists 7,N5 hi,ø,fT,iF
theorem Qt(ns:Za)(h:ns.length<=63): ∃S,TL [.scr (ns.map MV.int)] []=.ok (.val (.bl true)) S:=by
 obtain⟨x0,Z⟩:=AD ns 0 ↑4 [];obtain⟨ws,J,H,P⟩:=Qm x0 [];obtain⟨x1,Q⟩:=AD ns 1 ↑4 [.lst (ws.map MV.str)];obtain⟨K,h7,hV,aa⟩:=Vc x1 [.lst (ws.map MV.str)];obtain⟨x2,F⟩:=AD ns 2 ↑4 [.lst (ws.map MV.str),.lst K];obtain⟨ts,B,G⟩:=Jt x2 [.lst (ws.map MV.str),.lst K];obtain⟨o,r⟩: ∃o:Sto,o=[.lst (ws.map MV.str),.lst K]:=⟨_,rfl⟩
 rw[<-r]at F G;obtain⟨x,hx⟩:=AD ns 3 ↑4 o;have m0:0<=x / 64 % 4:=eN _ ↑4;have m1:x / 64 % 4<4:=eL _ ↑4;obtain⟨cs,s,y⟩:=Al ns o (List.range (1+(1+x / 64 % 4)).toNat);rw[ĭ]at s;have U:zU Fz [.scr (ns.map MV.int)]=[some (.scr (ns.map MV.int)),none,none,none,none,none,none,none,none,none,none]:=rfl;have e1:VM [some (.scr (ns.map MV.int)),none,none,none,none,none,none,none,none,none,none] []=.ok (.next [some (.scr (ns.map MV.int)),#[0],none,none,none,none,none,none,none,none,none]) [.lst (ws.map MV.str)]:=by unfold VM;exists 7,Z,P
 have e2:VN [some (.scr (ns.map MV.int)),#[0],none,none,none,none,none,none,none,none,none] [.lst (ws.map MV.str)]=.ok (.next [some (.scr (ns.map MV.int)),#[0],#[1],none,none,none,none,none,none,none,none]) o:=by unfold VN;simp? [Q,aa];rw[r];rfl
 have e3:VO [some (.scr (ns.map MV.int)),#[0],#[1],none,none,none,none,none,none,none,none] o=.ok (.next [some (.scr (ns.map MV.int)),#[0],#[1],#[ts.map tbl,3],none,none,none,none,none,none,none]) o:=by unfold VO;exists 7,F,G
 have e4:VR [some (.scr (ns.map MV.int)),#[0],#[1],#[ts.map tbl,3],none,none,none,none,none,none,none] o=.ok (.next [some (.scr (ns.map MV.int)),#[0],#[1],#[ts.map tbl,3],#[1+x / 64 % 4,0],none,none,none,none,none,none]) o:=by unfold VR;exists 7,hx,xG (b:=64) ↑4 ↑4,mod_lit (show(0:Int)<4 by decide)
 match cs,s,y with
 |[],s,_=>simp only[ë]at s;lia
 |c0::cr,s,y=>
  rw[lC0]at s;obtain⟨f,v⟩: ∃f:Sto,f=o++[.lst ((c0::cr).map MV.int)]:=⟨_,rfl⟩
  have L:o.length=2:=by rw[r];rfl
  have af:((List.range (1+(1+x / 64 % 4)).toNat).map λk=>MV.int (k:Nat)).length<1000000:=by rw[lM0,ĭ];lia
  have e5:VS [some (.scr (ns.map MV.int)),#[0],#[1],#[ts.map tbl,3],#[1+x / 64 % 4,0],none,none,none,none,none,none] o=.ok (.next [some (.scr (ns.map MV.int)),#[0],#[1],#[ts.map tbl,3],#[1+x / 64 % 4,0],#[2],none,none,none,none,none]) f:=by unfold VS;simp? [lG (S:=o) (j:=1+(1+x / 64 % 4)) (by lia),af,show∀a b c d e,vD 1 [0] [some a,some b,some c,some d,some e,none,none,none,none,none,none]=[none,some a]from λ_ _ _ _ _=>rfl,y];rw[v,L]
  have hw:f[0]? =#[ws.map MV.str,2]:=by rw[v,r];rfl
  have hp:f[1]? =#[K,2]:=by rw[v,r];rfl
  have hq:f[2]? =#[(c0::cr).map MV.int,2]:=by rw[v,r];rfl
  obtain⟨hs,as,a1,hA,ag,O,N⟩:=Qq (S:=f) (q:=2) (w:=0) (p:=1) B hw J H hp h7 hV hq (by omega) (by omega);obtain⟨ps,I,ab⟩:=Wg B hA (by lia) ag O f;obtain⟨i,A⟩: ∃i:Sto,i=f++[.lst (mS ps)]:=⟨_,rfl⟩
  obtain⟨M,hM⟩: ∃M:Option MV,M=#[1+x / 64 % 4,0]:=⟨_,rfl⟩
  rw[<-hM]at e4 e5;have e6:VT [some (.scr (ns.map MV.int)),#[0],#[1],#[ts.map tbl,3],M,#[2],none,none,none,none,none] f=.ok (.next (WT ns ↑2 M f.length none none none none)) i:=by unfold VT;simp? [N,ab];rw[A]
  have C:i[f.length]? =#[mS ps,2]:=by rw[A];exact yP _ _
  have O6:i[0]? =#[ws.map MV.str,2]:=by rw[A];exact AB hw
  have t0:=Hq I (by lia) (by lia);have j0:oF (.val (.str [32])) [#[f.length,1]] i=.ok (.val (.str (yX [32] ps))) i:=Ak C (by simp) (by have:=I.1;lia) (λz hz=>by have:=(I.2 z hz).1;omega);have e7:VU (WT ns ↑2 M f.length none none none none) i=.ok (.next (WT ns ↑2 M f.length none none none none)) i:=by unfold VU;exists 7,cF,j0,WQ B (show(yX [32] ps).length<=50000 by omega) (show(yX [32] ps).count 32<=800 by omega),ø,fT,iF
  obtain⟨T,p1,q1,b1,t1,g1,o1,l1⟩:=QC (ns:=ns) (ts:=ts) (ws:=ws) (S:=i) (m:=M) (b:=none) (t:=none) (h:=none) (k:=0) (by omega) B O6 J H C I (by omega) (by omega) (by omega);obtain⟨Z2,p2,q2,b2,t2,g2,o2,l2⟩:=QC (ns:=ns) (ts:=ts) (ws:=ws) (S:=i++T) (m:=M) (b:=b1) (t:=t1) (h:=none) (k:=1) (by omega) B (AB O6) J H g1 o1 (by omega) (by omega) (by omega);obtain⟨Z3,X,q3,Y,W,g3,o3,l3⟩:=QC (ns:=ns) (ts:=ts) (ws:=ws) (S:=i++T++Z2) (m:=M) (b:=b2) (t:=t2) (h:=none) (k:=2) (by omega) B (AB (AB O6)) J H g2 o2 (by omega) (by omega) (by omega);obtain⟨n,ah⟩: ∃n,n=i++T++Z2++Z3:=⟨_,rfl⟩
  rw[<-ah]at l3;have e8:VV (WT ns ↑2 M f.length none none none none) i=.ok (.next (WT ns ↑2 M X #[2,0] Y W none)) n:=by unfold VV;simp? [lG (S:=i) (j:=3) (by omega)];show bA (xY 7) MZ [] [.int ((0:Nat):Int),.int ((1:Nat):Int),.int ((2:Nat):Int)] _ i=_;rw[yM rfl l1 (xZ _)];rw[yM rfl l2 (xZ _)];rw[yM rfl l3 (xZ _)];rfl
  obtain⟨u,D⟩: ∃u,u=n++[MO.lst [.str [58]]]:=⟨_,rfl⟩
  have g5:u[n.length]? =#[[.str [58]],2]:=by rw[D];exact yP _ _
  have ae:xU [.val .non,#[7,5],.val (.bl true),#[[.str [58,32,48]],6],.new [.str [58]]] n=.ok (.new [.non,.int 7,.bl true,.tup [.str [58,32,48]],.loc n.length]) u:=by rw[D];exact hX (by simp)
  have E:bF [#[n.length,1],.val (.typ "str")] (u++[.lst []])=.ok (.val (.bl false)) (u++[.lst []]):=by
   have g:(u++[MO.lst []])[n.length]? =#[[.str [58]],2]:=AB g5;have ty:pK (u++[.lst []]) #[n.length,1]=some "list":=by show(cJ (u++[.lst []]) #[n.length,1]).map (λ_=>"list")=_;rw[kC g];rfl
   unfold bF;dsimp only;rw[ty];rfl
  have e9:VW (WT ns ↑2 M X #[2,0] Y W none) n=.ok (.next (WT ns ↑2 M X #[2,0] Y W #[n.length])) u:=by unfold VW;simp? [lst1,show pH [.val (.str [58,32,48])] n=.ok #[[.str [58,32,48]],6] n from VE (by simp),ae,show∀(ds:R0)(S:Sto),QS (.new ds) S=.ok ⟨ds,[]⟩ S from λ_ _=>rfl];rw[yM rfl (IT rfl) (xZ _)];rw[yM rfl (IT rfl) (xZ _)];rw[yM rfl (IT rfl) (xZ _)];rw[yM rfl (IT rfl) (xZ _)];rw[yM rfl (IT E) (xZ _)];rfl
  refine⟨u,?_⟩;unfold TL Xi;rw[U,zD e1,zD e2,zD e3,zD e4,zD e5,zD e6,zD e7,zD e8,zD e9];rfl
section
variable{K:P0}
noncomputable abbrev Re(a:Nat->Addr):List (Str×Addr):=[("TooGreat",a 0),("NoText",a 1),("NoPlace",a 2),("NotPlain",a 3),("NoTable",a 4),("NoRule",a 5),("NoRow",a 6),("Twice",a 7),("NoQuestion",a 8),("Double",a 9),("TooWide",a 10),("Ring",a 11)]
def NH:((Re xl).map (·.1)).Nodup:=show XNS.Nodup from by decide
noncomputable def top(i:Nat):Stmt:=PySem.Challenge.pw_mendsure_k38_texts_of_no_question.main.body.getD i (.Pass ⟨0,0,0,0⟩)
abbrev dA:Stmt:=inClass (top 10) 0
def QD:FnScope ["self","place"] ["self","place"] (zG dA):=fsK (by decide+kernel)
abbrev GV:Stmt:=top 16
def Am:FnScope ["thing"] ["thing"] (zG GV):=fsK (by decide+kernel)
def An(D:DefM K mg "is_whole" GV)(d:mg "int"=none)(b:mg "isinstance"=none)(e:mg "bool"=none):Uv P w K mg base "is_whole" 1 1 ["thing"] bI:=
 by have h:=HE (P:=P) (w:=w) (base:=base) D (λ_ _ _ _ _ _ i m=>match i,m with |[_],_=>rfl) λf n F=>FL (k:=0) _ F Am λj A a s H E o=>(zI (zQ (lB (zO wH bG rfl b yA (zA (zB 0) (zA (nR rfl d CB) zC))) (iZ (Bx (zO wH bG rfl b yA (zA (zB 0) (zA (nR rfl e VB) zC))))))))
    exact h
abbrev FB:Stmt:=top 17
def Dr:FnScope ["thing"] ["thing"] (zG FB):=fsK (by decide+kernel)
def Ds(D:DefM K mg "is_name" FB)(e:mg "str"=none)(j:mg "isinstance"=none)(b:mg "len"=none)(i:mg "MOST_LETTERS"=some (.int (8) qY))(o:mg "all"=none):Uv P w K mg base "is_name" 1 1 ["thing"] kP:=
 by have h:=HE (P:=P) (w:=w) (base:=base) D (λ_ _ _ _ _ _ d m=>match d,m with |[_],_=>rfl) λf r F=>FL (k:=0) _ F Dr λn A a s H E q=>(zF (yI (pG (oB (wG (zY (zO wH bG rfl j yA (zA (zB 0) (zA (nR rfl e CC) zC))))) (lE (wG (UY zE (zO zW xR rfl b xH (zA (zB 0) zC)) (MT rfl i)))))) (zI (zQ oA)) zZ) (zI (zQ (zO nO (OM rfl) rfl o ON (zA (gU (zG FB) ["thing"] ["sign"] [] (UV (zB 0)) rfl (λ_ _ _ _ p=>(xE 0 p)) (λ_ _ _ _=>jM) (λ_ _ _ _=>(Ff (zK [97]) (zB 0) (zK [122])))) zC)))))
    exact h
abbrev GW:Stmt:=top 18
def Ao:FnScope ["thing"] ["thing"] (zG GW):=fsK (by decide+kernel)
def Ap(D:DefM K mg "is_value" GW)(d:Uv P w K mg base "is_whole" 1 1 ["thing"] bI)(j:mg "abs"=none)(n:Uv P w K mg base "is_name" 1 1 ["thing"] kP):Uv P w K mg base "is_value" 2 1 ["thing"] vO:=
 by have h:=HE (P:=P) (w:=w) (base:=base) D (λ_ _ _ _ _ _ e m=>match e,m with |[_],_=>rfl) λf o F=>FL (k:=1) _ F Ao λi A a s H E b=>(zF (yI (zY (zL d (b.mono (by decide)) rfl (zA (zB 0) zC))) (zI (zQ (V5 b.units (zO Ld Zy rfl j Zz (zA (zB 0) zC)) (BV zE zE)))) zZ) (zI (zQ (zL n (b.mono (by decide)) rfl (zA (zB 0) zC)))))
    exact h
abbrev GX:Stmt:=top 20
def Aq:FnScope fA fA (zG GX):=fsK (by decide+kernel)
def Ar(D:DefM K mg "is_tuple" GX)(j:mg "tuple"=none)(b:mg "isinstance"=none)(d:mg "len"=none):Uv P w K mg base "is_tuple" 1 3 fA bK:=
 by have h:=HE (P:=P) (w:=w) (base:=base) D (λ_ _ _ _ _ _ e m=>match e,m with |[_,_,_],_=>rfl) λf n F=>FL (k:=0) _ F Aq λi A a s H E o=>(zI (zQ (lB (zO wH bG rfl b yA (zA (zB 0) (zA (nR rfl j kT) zC))) (iZ (Ff (zB 1) (zO zW xR rfl d xH (zA (zB 0) zC)) (zB 2))))))
    exact h
abbrev eG:Stmt:=top 21
def GY:FnScope ["thing","bound"] ["thing","bound"] (zG eG):=fsK (by decide+kernel)
def GZ(D:DefM K mg "is_number_below" eG)(i:Uv P w K mg base "is_whole" 1 1 ["thing"] bI):Uv P w K mg base "is_number_below" 2 2 ["thing","bound"] kW:=
 by have h:=HE (P:=P) (w:=w) (base:=base) D (λ_ _ _ _ _ _ d j=>match d,j with |[_,_],_=>rfl) λf m F=>FL (k:=1) _ F GY λe A a s H E b=>(zI (zQ (lB (zL i (b.mono (by decide)) rfl (zA (zB 0) zC)) (iZ (Sz b.units zE (zB 0) (zB 1))))))
    exact h
abbrev KR:Stmt:=top 25
def Dt:FnScope ["thing"] ["thing"] (zG KR):=fsK (by decide+kernel)
def Du(D:DefM K mg "is_term" KR)(i:Uv P w K mg base "is_tuple" 1 3 fA bK)(n:Uv P w K mg base "is_name" 1 1 ["thing"] kP)(j:Uv P w K mg base "is_value" 2 1 ["thing"] vO):Uv P w K mg base "is_term" 3 1 ["thing"] EQ:=
 by have h:=HE (P:=P) (w:=w) (base:=base) D (λ_ _ _ _ _ _ d m=>match d,m with |[_],_=>rfl) λf o F=>FL (k:=2) _ F Dt λe A b s H E a=>(zF (yI (wG (zY (zL i (a.mono (by decide)) rfl (zA (zB 0) (zA zE (zA zE zC)))))) (zI (zQ oA)) zZ) (zF (yI (pI a.units (yK (zB 0) zE) (zK [118,97,114])) (zI (zQ (zL n (a.mono (by decide)) rfl (zA (yK (zB 0) zE) zC)))) zZ) (zI (zQ (lB (rL a.units (yK (zB 0) zE) (zK [105,115])) (iZ (zL j (a.mono (by decide)) rfl (zA (yK (zB 0) zE) zC))))))))
    exact h
abbrev FC:Stmt:=top 26
def QE:FnScope JZ ["thing","tables"] (zG FC):=fsK (by decide+kernel)
def Dv(D:DefM K mg "is_atom" FC)(d:Uv P w K mg base "is_tuple" 1 3 fA bK)(p:Uv P w K mg base "is_number_below" 2 2 ["thing","bound"] kW)(e:mg "len"=none)(j:Uv P w K mg base "is_term" 3 1 ["thing"] EQ)(o:mg "all"=none):Uv P w K mg base "is_atom" 4 2 ["thing","tables"] ER:=
 by have h:=HE (P:=P) (w:=w) (base:=base) D (λ_ _ _ _ _ _ i m=>match i,m with |[_,_],_=>rfl) λf r F=>FL (k:=3) _ F QE λn A b s H E a=>(zF (yI (pG (oB (wG (zY (zL d (a.mono (by decide)) rfl (zA (zB 0) (zA zE (zA zE zC)))))) (lE (wG (zY (zL p (a.mono (by decide)) rfl (zA (yK (zB 0) zE) (zA (zO zW xR rfl e xH (zA (zB 1) zC)) zC)))))))) (zI (zQ oA)) zZ) (zF (zN 2 QE.nd (yK (yK (zB 1) (yK (zB 0) zE)) zE)) (zI (zQ (lB (zL d (a.mono (by decide)) rfl (zA (yK (zB 0) zE) (zA (zB 2) (zA (zB 2) zC)))) (iZ (zO nO (OM rfl) rfl o ON (zA (gU (zG FC) JZ ["term"] [] (GD (yK (zB 0) zE)) rfl (λ_ _ _ _ q=>(xE 0 q)) (λ_ _ _ _=>jM) (λ_ _ _ _=>(zL j (a.mono (by decide)) rfl (zA (zB 0) zC)))) zC))))))))
    exact h
abbrev HA:Stmt:=top 27
def sB:FnScope GL ["atoms"] (zG HA):=fsK (by decide+kernel)
def As(D:DefM K mg "names_in" HA)(i:mg "list"=none):Uv P w K mg base "names_in" 1 1 ["atoms"] fD:=
 by have h:=HE (P:=P) (w:=w) (base:=base) D (λ_ _ _ _ _ _ b j=>match b,j with |[_],_=>rfl) λf m F=>FL (k:=0) _ F sB λd A a s H E e=>(zF (zN 1 sB.nd Ni) (zF (bE ö rfl (Nu (zB 0)) (xA 2 sB.nd) (zI (bE ö rfl (GD (yK (zB 2) zE)) (xA 3 sB.nd) (zI (yI (pI e.units (yK (zB 3) zE) (zK [118,97,114])) (zI (OJ oA (Up (zB 1) (yK (zB 3) zE)))) zZ))))) (zI (zQ (yY Cp (Nz rfl) rfl i HZ (zA (zB 1) zC))))))
    exact h
abbrev FD:Stmt:=top 28
def QF:FnScope EO ["things","atoms"] (zG FD):=fsK (by decide+kernel)
def Dw(D:DefM K mg "is_head" FD)(i:Uv P w K mg base "names_in" 1 1 ["atoms"] fD)(b:mg "len"=none)(e:mg "MOST_NAMES"=some (.int (4) AR))(p:mg "all"=none)(n:mg "set"=none):Uv P w K mg base "is_head" 2 2 ["things","atoms"] pD:=
 by have h:=HE (P:=P) (w:=w) (base:=base) D (λ_ _ _ _ _ _ j m=>match j,m with |[_,_],_=>rfl) λf r F=>FL (k:=1) _ F QF λo A a s H E d=>(zF (zN 2 QF.nd (zL i (d.mono (by decide)) rfl (zA (zB 1) zC))) (zF (yI (pG (oB (Fe (zO zW xR rfl b xH (zA (zB 0) zC)) (MT rfl e)) (lE (wG (zY (zO nO (OM rfl) rfl p ON (zA (gU (zG FD) EO ["thing"] [2] (Nu (zB 0)) rfl (λ_ _ _ _ q=>(xE 0 q)) (λ_ _ _ _=>jM) (λ_ _ _ _=>(Wz d.units (zB 0) (zB 1)))) zC))))))) (zI (zQ oA)) zZ) (zI (zQ (rL d.units (Fv rfl rfl b rfl n (zA (zB 0) zC)) (zO zW xR rfl b xH (zA (zB 0) zC)))))))
    exact h
abbrev QG:Stmt:=top 29
def Jz:FnScope ["thing"] ["thing"] (zG QG):=fsK (by decide+kernel)
def Ka(D:DefM K mg "listed" QG)(j:mg "list"=none)(i:mg "tuple"=none)(b:mg "isinstance"=none):Uv P w K mg base "listed" 1 1 ["thing"] CY:=
 by have h:=HE (P:=P) (w:=w) (base:=base) D (λ_ _ _ _ _ _ d m=>match d,m with |[_],_=>rfl) λf n F=>FL (k:=0) _ F Jz λe A a s H E o=>(zI (zQ (zO Jg Ul rfl b yA (zA (zB 0) (zA (bD (zA (nR rfl j HZ) (zA (nR rfl i kT) zC))) zC)))))
    exact h
abbrev uD:Stmt:=top 30
def qR:FnScope sL ["tables","head","atoms"] (zG uD):=fsK (by decide+kernel)
def QH(D:DefM K mg "question_of" uD)(i:XTab K mg xM (Re xl))(p:Uv P w K mg base "listed" 1 1 ["thing"] CY)(d:XIn K xM (xl 8) f_NoQuestion)(a:FnOk P w K mg base LD 1 f_NoQuestion fdI_NoQuestion ["self","place"] (Fw (xl 8) "place"))(b:Binds K fdI_NoQuestion ["self","place"] [])(t:mg "enumerate"=none)(q:Uv P w K mg base "is_atom" 4 2 ["thing","tables"] ER)(m:mg "len"=none)(z:mg "MOST_ATOMS"=some (.int (4) AN))(y:Uv P w K mg base "is_head" 2 2 ["things","atoms"] pD)(o:mg "tuple"=none):Jn P w K mg base "question_of" 5 3 ["tables","head","atoms"] gM:=
 by have h:=Jo (P:=P) (w:=w) (base:=base) D (λ_ _ _ _ _ _ r u=>match r,u with |[_,_,_],_=>rfl) λf B F=>O5 (k:=4) _ F qR λv A j s H E e=>(zF (yI (wG (zY (zL p (e.mono (by decide)) rfl (zA (zB 2) zC)))) (zI (JW eT rfl (i.each.at t8M).1 i.mc d a b e zE)) zZ) (zF (bE PassesOwn.leaving rfl (Ue rfl t (zA (zB 2) zC)) (JK (n:=2) rfl (dE (xA 3 qR.nd) (dE (xA 4 qR.nd) JI))) (zI (yI (wG (zY (zL q (e.mono (by decide)) rfl (zA (zB 4) (zA (zB 0) zC))))) (zI (JW eT rfl (i.each.at t8M).1 i.mc d a b e (zB 3))) zZ))) (zF (yI (pG (oB (wG (UY zE (zO zW xR rfl m xH (zA (zB 2) zC)) (MT rfl z))) (oB (wG (zY (zL p (e.mono (by decide)) rfl (zA (zB 1) zC)))) (lE (wG (zY (zL y (e.mono (by decide)) rfl (zA (zB 1) (zA (zB 2) zC))))))))) (zI (JW eT rfl (i.each.at t8M).1 i.mc d a b e (zO zW xR rfl m xH (zA (zB 2) zC)))) zZ) (zI (zQ (bD (zA (yY xS cV rfl o kT (zA (zB 1) zC)) (zA (yY xS cV rfl o kT (zA (zB 2) zC)) zC))))))))
    exact h
abbrev dQ:Stmt:=top 34
def vC:FnScope ["text","figures"] ["text"] (zG dQ):=fsK (by decide+kernel)
def KS(D:DefM K mg "writes_number" dQ)(e:mg "len"=none)(d:mg "MOST_FIGURES"=some (.int (30) qU))(m:mg "FIGURES"=some (.str (yZ [48,49,50,51,52,53,54,55,56,57]) KZ))(o:mg "all"=none):Uv P w K mg base "writes_number" 1 1 ["text"] kQ:=
 by have h:=HE (P:=P) (w:=w) (base:=base) D (λ_ _ _ _ _ _ i j=>match i,j with |[_],_=>rfl) λf q F=>FL (k:=0) _ F vC λn A a s H E b=>(zF (zN 1 vC.nd (V2 (zY (JR (zB 0) (zA (zK [45]) zC))) (xQ (zB 0) (yO zE) yN) (zB 0))) (zF (yI (wG (UY zE (zO zW xR rfl e xH (zA (zB 1) zC)) (MT rfl d))) (zI (zQ oA)) zZ) (zF (yI (wG (zY (zO nO (OM rfl) rfl o ON (zA (gU (zG dQ) ["text","figures"] ["figure"] [] (UV (zB 1)) rfl (λ_ _ _ _ p=>(xE 0 p)) (λ_ _ _ _=>jM) (λ_ _ _ _=>(Wz b.units (zB 0) (Sl (y:=[48,49,50,51,52,53,54,55,56,57]) rfl m)))) zC)))) (zI (zQ oA)) zZ) (zI (zQ (Wt (rL b.units (zB 0) (zK [48])) (iZ (Wy b.units (yK (zB 1) zE) (zK [48])))))))))
    exact h
abbrev AG:Stmt:=top 35
def RD:FnScope ["text"] ["text"] (zG AG):=fsK (by decide+kernel)
def RE(D:DefM K mg "read_value" AG)(b:XTab K mg xM (Re xl))(m:mg "str"=none)(o:mg "isinstance"=none)(a:CG K (xl 1) (.ref xM::iV) none)(q:Uv P w K mg base "is_name" 1 1 ["thing"] kP)(n:Uv P w K mg base "writes_number" 1 1 ["text"] kQ)(i:mg "int"=none):Jn P w K mg base "read_value" 2 1 ["text"] bW:=
 by have h:=Jo (P:=P) (w:=w) (base:=base) D (λ_ _ _ _ _ _ j p=>match j,p with |[_],_=>rfl) λf t F=>O5 (k:=1) _ F RD λr A d s H E e=>(zF (yI (wG (zY (zO wH bG rfl o yA (zA (zB 0) (zA (nR rfl m CC) zC))))) (zI (pC eT rfl (b.each.at t1M).1 a b.mc (zA (zK [119,104,97,116,32,105,115,32,110,111,32,116,101,120,116,32,119,114,105,116,101,115,32,110,111,32,118,97,108,117,101]) zC))) zZ) (zF (yI (zY (zL q (e.mono (by decide)) rfl (zA (zB 0) zC))) (zI (zQ (zB 0))) zZ) (zF (yI (zY (zL n (e.mono (by decide)) rfl (zA (zB 0) zC))) (zI (zQ (yY iE OO rfl i CB (zA (zB 0) zC)))) zZ) (zI (pC eT rfl (b.each.at t1M).1 a b.mc (zA (zK [116,104,101,32,116,101,120,116,32,119,114,105,116,101,115,32,110,111,32,118,97,108,117,101]) zC))))))
    exact h
abbrev DT:Stmt:=top 37
def WU:FnScope ["piece"] ["piece"] (zG DT):=fsK (by decide+kernel)
def WV(D:DefM K mg "read_name" DT)(d:XTab K mg xM (Re xl))(n:Uv P w K mg base "is_name" 1 1 ["thing"] kP)(a:CG K (xl 1) (.ref xM::iV) none):Jn P w K mg base "read_name" 2 1 ["piece"] nF:=
 by have h:=Jo (P:=P) (w:=w) (base:=base) D (λ_ _ _ _ _ _ e m=>match e,m with |[_],_=>rfl) λf o F=>O5 (k:=1) _ F WU λi A b s H E j=>(zF (yI (pG (oB (wG (zY (JR (zB 0) (zA (zK [63]) zC)))) (lE (wG (zY (zL n (j.mono (by decide)) rfl (zA (xQ (zB 0) (yO zE) yN) zC))))))) (zI (pC eT rfl (d.each.at t1M).1 a d.mc (zA (zK [97,32,112,105,101,99,101,32,105,115,32,110,111,116,32,63,32,97,110,100,32,97,32,110,97,109,101]) zC))) zZ) (zI (zQ (xQ (zB 0) (yO zE) yN))))
    exact h
abbrev DU:Stmt:=top 38
def WW:FnScope ["piece"] ["piece"] (zG DU):=fsK (by decide+kernel)
def WX(D:DefM K mg "read_term" DU)(m:Jn P w K mg base "read_name" 2 1 ["piece"] nF)(d:Jn P w K mg base "read_value" 2 1 ["text"] bW):Jn P w K mg base "read_term" 3 1 ["piece"] rQ:=
 by have h:=Jo (P:=P) (w:=w) (base:=base) D (λ_ _ _ _ _ _ e j=>match e,j with |[_],_=>rfl) λf n F=>O5 (k:=2) _ F WW λi A a s H E b=>(zF (yI (zY (JR (zB 0) (zA (zK [63]) zC))) (zI (zQ (bD (zA (zK [118,97,114]) (zA (EN eT m (b.mono (by decide)) rfl (zA (zB 0) zC)) zC))))) zZ) (zI (zQ (bD (zA (zK [105,115]) (zA (EN eT d (b.mono (by decide)) rfl (zA (zB 0) zC)) zC))))))
    exact h
abbrev sC:Stmt:=top 39
def WY:FnScope ["pieces"] ["pieces"] (zG sC):=fsK (by decide+kernel)
def WZ(D:DefM K mg "read_atom" sC)(e:XTab K mg xM (Re xl))(i:mg "len"=none)(o:Uv P w K mg base "writes_number" 1 1 ["text"] kQ)(a:CG K (xl 1) (.ref xM::iV) none)(q:Jn P w K mg base "read_value" 2 1 ["text"] bW)(m:Jn P w K mg base "read_term" 3 1 ["piece"] rQ)(n:mg "tuple"=none):Jn P w K mg base "read_atom" 4 1 ["pieces"] rR:=
 by have h:=Jo (P:=P) (w:=w) (base:=base) D (λ_ _ _ _ _ _ j p=>match j,p with |[_],_=>rfl) λf u F=>O5 (k:=3) _ F WY λr A d s H E b=>(zF (yI (pG (oB (pI b.units (zO zW xR rfl i xH (zA (zB 0) zC)) zE) (lE (wG (zY (zL o (b.mono (by decide)) rfl (zA (yK (zB 0) zE) zC))))))) (zI (pC eT rfl (e.each.at t1M).1 a e.mc (zA (zK [97,110,32,97,116,111,109,32,100,111,101,115,110,39,116,32,98,101,103,105,110,32,119,105,116,104,32,97,32,110,117,109,98,101,114]) zC))) zZ) (zI (zQ (bD (zA (EN eT q (b.mono (by decide)) rfl (zA (yK (zB 0) zE) zC)) (zA (yY xS cV rfl n kT (zA (Ot Dc rfl rfl rfl (zG sC) ["pieces"] ["piece"] [] (bU (xQ (zB 0) (yO zE) yN)) rfl (λ_ _ _ _ t=>(xE 0 t)) (λ_ _ _ _=>jM) (λ_ _ _ _=>(JY VI m (b.mono (by decide)) rfl (zA (zB 0) zC)))) zC)) zC))))))
    exact h
abbrev DV:Stmt:=top 40
def AH:FnScope CI ["pieces","sign"] (zG DV):=fsK (by decide+kernel)
def XA(D:DefM K mg "parted_at" DV):Uv P w K mg base "parted_at" 1 2 ["pieces","sign"] bN:=
 by have h:=HE (P:=P) (w:=w) (base:=base) D (λ_ _ _ _ _ _ b i=>match b,i with |[_,_],_=>rfl) λf j F=>FL (k:=0) _ F AH λd A a s H E e=>(zF (zN 2 AH.nd (yQ (zA (yQ zC) zC))) (zF (bE ö rfl (bU (zB 0)) (xA 3 AH.nd) (zI (yI (pI e.units (zB 3) (zB 1)) (zI (oQ (bV (zB 2) (zA (yQ zC) zC)))) (zI (oQ (bV (yK (zB 2) Lw) (zA (zB 3) zC))))))) (zI (zQ (zB 2)))))
    exact h
abbrev gI:Stmt:=top 41
def cG:FnScope kO ["tables","text"] (zG gI):=fsK (by decide+kernel)
def KU(D:DefM K mg "read_question" gI)(d:XTab K mg xM (Re xl))(o:mg "str"=none)(p:mg "isinstance"=none)(a:CG K (xl 1) (.ref xM::iV) none)(j:Uv P w K mg base "parted_at" 1 2 ["pieces","sign"] bN)(m:mg "len"=none)(t:Jn P w K mg base "read_name" 2 1 ["piece"] nF)(v:Jn P w K mg base "read_atom" 4 1 ["pieces"] rR)(r:Jn P w K mg base "question_of" 5 3 ["tables","head","atoms"] gM):Jn P w K mg base "read_question" 6 2 ["tables","text"] yD:=
 by have h:=Jo (P:=P) (w:=w) (base:=base) D (λ_ _ _ _ _ _ n q=>match n,q with |[_,_],_=>rfl) λf y F=>O5 (k:=5) _ F cG λu A e s H E b=>(zF (yI (wG (zY (zO wH bG rfl p yA (zA (zB 1) (zA (nR rfl o CC) zC))))) (zI (pC eT rfl (d.each.at t1M).1 a d.mc (zA (zK [119,104,97,116,32,105,115,32,110,111,32,116,101,120,116,32,119,114,105,116,101,115,32,110,111,32,113,117,101,115,116,105,111,110]) zC))) zZ) (zF (zN 2 cG.nd (zL j (b.mono (by decide)) rfl (zA (ZO (zB 1) (zA (zK [32]) zC)) (zA (zK [58]) zC)))) (zF (yI (LI b.units (zO zW xR rfl m xH (zA (zB 2) zC)) zE) (zI (pC eT rfl (d.each.at t1M).1 a d.mc (zA (zK [97,32,113,117,101,115,116,105,111,110,32,104,97,115,32,111,110,101,32,112,105,101,99,101,32,58,32,105,110,32,105,116]) zC))) zZ) (zF (ZR Dc rfl rfl rfl 3 cG.nd (zG gI) kO ["piece"] [] (bU (yK (zB 2) zE)) rfl (λ_ _ _ _ i=>(xE 0 i)) (λ_ _ _ _=>jM) (λ_ _ _ _=>(JY VI t (b.mono (by decide)) rfl (zA (zB 0) zC)))) (zF (ZR Dc rfl rfl rfl 4 cG.nd (zG gI) kO ["pieces"] [] (bU (zL j (b.mono (by decide)) rfl (zA (yK (zB 2) zE) (zA (zK [59]) zC)))) rfl (λ_ _ _ _ i=>(xE 0 i)) (λ_ _ _ _=>jM) (λ_ _ _ _=>(JY VI v (b.mono (by decide)) rfl (zA (zB 0) zC)))) (zI (zQ (EN eT r (b.mono (by decide)) rfl (zA (zB 0) (zA (zB 3) (zA (zB 4) zC)))))))))))
    exact h
abbrev qS:Stmt:=top 43
def MI:FnScope [ŋ,Ő] [ŋ,Ő] (zG qS):=fsK (by decide+kernel)
def MK(D:DefM K mg ş qS)(b:mg "len"=none):Uv P w K mg base ş 1 2 [ŋ,Ő] yG:=
 by have h:=HE (P:=P) (w:=w) (base:=base) D (λ_ _ _ _ _ _ d j=>match d,j with |[_,_],_=>rfl) λf m F=>FL (k:=0) _ F MI λe A a s H E i=>(zF (yI (YR i.units (zB 1) (zO zW xR rfl b xH (zA (zB 0) zC))) (zI (zQ (yK (zB 0) (zB 1)))) zZ) (zI (zQ zE)))
    exact h
abbrev HB:Stmt:=top 44
def LX:FnScope GM [ň,ő] (zG HB):=fsK (by decide+kernel)
def Au(D:DefM K mg Ŗ HB):Uv P w K mg base Ŗ 1 2 [ň,ő] yV:=
 by have h:=HE (P:=P) (w:=w) (base:=base) D (λ_ _ _ _ _ _ b i=>match b,i with |[_,_],_=>rfl) λf j F=>FL (k:=0) _ F LX λd A a s H E e=>(zF (yI (pI e.units (yU (zB 0) zE) zE) (zI (zQ (yU (wO (zB 0) zE) (BV (BV zE zE) zE)))) zZ) (zF (zN 2 LX.nd (yU (vK (zT (yU (zB 0) zE) zE) zE) (zB 1))) (zI (zQ (zT (vK (yU (vK (zB 2) (zB 2)) zE) zE) (zB 2))))))
    exact h
abbrev DW:Stmt:=top 45
def gA:FnScope CK [ň] (zG DW):=fsK (by decide+kernel)
def XC(D:DefM K mg Ū DW)(e:mg "range"=none):Uv P w K mg base Ū 1 1 [ň] nG:=
 by have h:=HE (P:=P) (w:=w) (base:=base) D (λ_ _ _ _ _ _ b i=>match b,i with |[_],_=>rfl) λf j F=>FL (k:=0) _ F gA λd A a s H E m=>(zF (zN 1 gA.nd (zK [97,98,99,100,101,102,103,104,105,106,107,108,109,110,111,112,113,114,115,116,117,118,119,120,121,122])) (zF (zN 2 gA.nd (wO (zB 0) zE)) (zF (zN 3 gA.nd (zK [])) (zF (bE ö rfl (jT rfl e (zA (zT zE (yU (zB 0) zE)) zC)) (xA 4 gA.nd) (zF (zN 3 gA.nd (zT (zB 3) (yK (zB 1) (yU (zB 2) zE)))) (zI (zN 2 gA.nd (wO (zB 2) zE))))) (zI (zQ (zB 3)))))))
    exact h
abbrev DX:Stmt:=top 46
def xX:FnScope CL [ň] (zG DX):=fsK (by decide+kernel)
def XD(D:DefM K mg ū DX)(d:Uv P w K mg base Ŗ 1 2 [ň,ő] yV)(e:Uv P w K mg base Ū 1 1 [ň] nG)(i:mg "len"=none):Uv P w K mg base ū 2 1 [ň] nH:=
 by have h:=HE (P:=P) (w:=w) (base:=base) D (λ_ _ _ _ _ _ j n=>match j,n with |[_],_=>rfl) λf o F=>FL (k:=1) _ F xX λm A a s H E b=>(zF (zN 1 xX.nd (zL d (b.mono (by decide)) rfl (zA (zB 0) (zA zE zC)))) (zF (zN 2 xX.nd (zK [97,98,99,100,101,102,103,104,105,106,107,108,109,110,111,112,113,114,115,116,117,118,119,120,121,122])) (zF (zN 3 xX.nd (zL e (b.mono (by decide)) rfl (zA (zB 1) zC))) (zF (zN 1 xX.nd (wO (zB 1) (vK zE (BV zE zE)))) (zF (zN 4 xX.nd (yU (zB 1) (zO zW xR rfl i xH (zA (zB 3) zC)))) (zF (zN 5 xX.nd (zT (zT (Fj (zB 2) (zA (yK (zB 3) (zB 4)) zC)) zE) (yU (wO (zB 1) zE) zE))) (zF (zN 6 xX.nd (zT (zT (xQ (zB 3) yN (yO (zB 4))) (yK (zB 2) (yU (zB 5) zE))) (xQ (zB 3) (yO (zT (zB 4) zE)) yN))) (zF (zN 1 xX.nd (wO (zB 1) zE)) (zF (zN 7 xX.nd (zT (yU (BV (zT (vK (yU (zB 1) (BV zE zE)) zE) zE) zE) (Cf (BV zE zE) zE)) zE)) (zF (yI (pI b.units (yU (zB 1) zE) zE) (zI (zN 7 xX.nd (zT (yU (wO (zB 1) zE) (Cf (BV zE zE) zE)) zE))) zZ) (zI (zQ (yQ (zA (yU (wO (zB 1) zE) zE) (zA (zB 7) (zA (zB 3) (zA (Cf zE (zB 7)) (zA (zB 6) (zA (zT (yU (wO (zB 1) zE) zE) zE) (zA (zT (zB 7) zE) zC))))))))))))))))))))
    exact h
abbrev oX:Stmt:=top 47
def RF:FnScope [Ō,œ] [Ō,œ] (zG oX):=fsK (by decide+kernel)
def RG(D:DefM K mg ť oX)(u:mg "str"=none)(i:mg "isinstance"=none)(q:mg "int"=none)(G:mg "bool"=none)(v:mg "list"=none)(t:mg "tuple"=none)(r:mg "len"=none)(B:mg "zip"=none)(J:mg "all"=none):Uv P w K mg base ť 8 2 [Ō,œ] (xW 8):=by
 obtain⟨f,p,d,F⟩:=D.ex;have b:=F.kp;have a:=F.binds (ps:=[Ō,œ]) (λ_ _ _ _ _ _ z L=>match z,L with |[_,_],_=>rfl)
 have all: ∀n,FnOk P w K mg base LD (0+n) f p [Ō,œ] (XS ⟨K,mg,P,w⟩ 2 (xW n)):=by
  intro n
  induction n with
  |zero=>exact W4
  |succ n ih0=>
   have C: ∀m,m=n->FnOk P w K mg base LD (0+m) f p [Ō,œ] (XS ⟨K,mg,P,w⟩ 2 (xW m)):=λm e=>e▸ih0;have h:=FL (P:=P) (w:=w) (mg:=mg) (base:=base) (k:=0+n) _ F RF λI A o s H E j=>(zF (yI (Ml (zB 1) iY) (zI (zQ (V7 (zB 0) iY))) zZ) (zF (yI (zY (zO wH bG rfl i yA (zA (zB 1) (zA (nR rfl u CC) zC)))) (zI (zQ (lB (zO wH bG rfl i yA (zA (zB 0) (zA (nR rfl u CC) zC))) (iZ (rL j.units (zB 0) (zB 1)))))) zZ) (zF (yI (zY (zO wH bG rfl i yA (zA (zB 1) (zA (nR rfl q CB) zC)))) (zI (zQ (lB (zO wH bG rfl i yA (zA (zB 0) (zA (nR rfl q CB) zC))) (lB (Bx (zO wH bG rfl i yA (zA (zB 0) (zA (nR rfl G VB) zC)))) (iZ (rL j.units (zB 0) (zB 1))))))) zZ) (zF (yI (pG (By (zY (zO wH bG rfl i yA (zA (zB 1) (zA (nR rfl v HZ) zC)))) (UU (wG (zY (zO wH bG rfl i yA (zA (zB 0) (zA (nR rfl v HZ) zC)))))))) (zI (zQ oA)) zZ) (zF (yI (pG (By (zY (zO wH bG rfl i yA (zA (zB 1) (zA (nR rfl t kT) zC)))) (UU (wG (zY (zO wH bG rfl i yA (zA (zB 0) (zA (nR rfl t kT) zC)))))))) (zI (zQ oA)) zZ) (zI (zQ (lB (rL j.units (zO zW xR rfl r xH (zA (zB 0) zC)) (zO zW xR rfl r xH (zA (zB 1) zC))) (iZ (zO nO (OM rfl) rfl J ON (zA (gU (zG oX) [Ō,œ] ["_law_one","_law_other"] [] (A4 rfl B (zA (zB 0) (zA (zB 1) zC))) rfl (λ_ _ _ _ y=>(Ca (n:=2) rfl (EK (xE 0 y) (EK (xE 1 y) Bz)))) (λ_ _ _ _=>jM) (λ_ _ _ _=>(Eu (C n rfl) (j.mono (by omega)) rfl d b a (zA (zB 0) (zA (zB 1) zC))))) zC)))))))))))
   exact h
 exact⟨f,p,all 8,d,b,a⟩
abbrev uE:Stmt:=top 48
def wL:FnScope sM [ň,ũ] (zG uE):=fsK (by decide+kernel)
def QI(D:DefM K mg Ţ uE)(b:Uv P w K mg base Ŗ 1 2 [ň,ő] yV)(m:mg "range"=none)(j:mg "tuple"=none):Uv P w K mg base Ţ 2 2 [ň,ũ] gO:=
 by have h:=HE (P:=P) (w:=w) (base:=base) D (λ_ _ _ _ _ _ d n=>match d,n with |[_,_],_=>rfl) λf o F=>FL (k:=1) _ F wL λe A a s H E i=>(zF (zN 2 wL.nd (zL b (i.mono (by decide)) rfl (zA (zB 0) (zA zE zC)))) (zF (zN 3 wL.nd (zT zE (yU (zB 2) (zB 1)))) (zF (zN 2 wL.nd (wO (zB 2) (zB 1))) (zF (zN 4 wL.nd (yQ zC)) (zF (bE ö rfl (jT rfl m (zA (zB 3) zC)) (xA 5 wL.nd) (zF (zN 6 wL.nd (zT zE (yU (zB 2) zE))) (zF (oQ (bV (zB 4) (zA (bD (zA (zB 6) (zA (yU (wO (zB 2) zE) (zT (zB 6) zE)) zC))) zC))) (zI (zN 2 wL.nd (wO (zB 2) zE)))))) (zI (zQ (yY xS cV rfl j kT (zA (zB 4) zC)))))))))
    exact h
abbrev oY:Stmt:=top 49
def yT:FnScope oR [ň,Ś] (zG oY):=fsK (by decide+kernel)
def RH(D:DefM K mg Ŧ oY)(e:Uv P w K mg base Ŗ 1 2 [ň,ő] yV)(d:mg "range"=none):Uv P w K mg base Ŧ 2 2 [ň,Ś] hZ:=
 by have h:=HE (P:=P) (w:=w) (base:=base) D (λ_ _ _ _ _ _ i m=>match i,m with |[_,_],_=>rfl) λf o F=>FL (k:=1) _ F yT λj A a s H E b=>(zF (zN 2 yT.nd (zK [97,98,99,100,101,102,103,104,105,106,107,108,109,110,111,112,113,114,115,116,117,118,119,120,121,122])) (zF (zN 3 yT.nd (zL e (b.mono (by decide)) rfl (zA (zB 0) (zA zE zC)))) (zF (zN 4 yT.nd (zT zE (yU (zB 3) zE))) (zF (zN 5 yT.nd (yU (wO (zB 3) zE) (zB 4))) (zF (zN 6 yT.nd (rL b.units (yU (wO (zB 3) zE) zE) zE)) (zF (zN 3 yT.nd (wO (zB 3) zE)) (zF (zN 7 yT.nd (zK [])) (zF (bE ö rfl (jT rfl d (zA (zB 4) zC)) (xA 8 yT.nd) (zF (zN 7 yT.nd (zT (zB 7) (yK (zB 2) (yU (zB 3) zE)))) (zI (zN 3 yT.nd (wO (zB 3) zE))))) (zF (zN 9 yT.nd (Fj (zB 2) (zA (yK (zB 7) (zB 5)) zC))) (zF (HS 10 yT.nd (zG oY) oR [Ő] [2,5,7,9] (jT rfl d (zA (zB 1) zC)) rfl (λ_ _ _ _ n=>(xE 0 n)) (λ_ _ _ _=>jM) (λ_ _ _ _=>(zT (zT (xQ (zB 3) yN (yO (zB 2))) (yK (zB 1) (yU (zT (zB 4) (zB 0)) zE))) (xQ (zB 3) (yO (zT (zB 2) zE)) yN)))) (zF (yI (zY (zB 6)) (zI (OJ (zT (yK (zB 10) zE) (yK (zB 2) (yU (zB 3) zE))) (A1 (zB 10) zE))) zZ) (zI (zQ (zB 10))))))))))))))
    exact h
abbrev DY:Stmt:=top 50
def gB:FnScope CN [ň,Ň,Ŋ,Ŏ,Ŕ] (zG DY):=fsK (by decide+kernel)
def XE(D:DefM K mg Ŭ DY)(j:Uv P w K mg base Ŗ 1 2 [ň,ő] yV)(b:mg "len"=none)(o:mg "range"=none)(i:mg "tuple"=none):Uv P w K mg base Ŭ 2 5 [ň,Ň,Ŋ,Ŏ,Ŕ] nI:=
 by have h:=HE (P:=P) (w:=w) (base:=base) D (λ_ _ _ _ _ _ e m=>match e,m with |[_,_,_,_,_],_=>rfl) λf p F=>FL (k:=1) _ F gB λn A a s H E d=>(zF (zN 5 gB.nd (zL j (d.mono (by decide)) rfl (zA (zB 0) (zA zE zC)))) (zF (zN 6 gB.nd (yU (zB 5) (zO zW xR rfl b xH (zA (zB 1) zC)))) (zF (zN 5 gB.nd (wO (zB 5) (zO zW xR rfl b xH (zA (zB 1) zC)))) (zF (zN 7 gB.nd (yQ zC)) (zF (bE ö rfl (jT rfl o (zA (yK (yK (zB 1) (zB 6)) zE) zC)) (xA 8 gB.nd) (zF (yI (YR d.units (yU (zB 5) zE) zE) (zI (oQ (bV (zB 7) (zA (bD (zA (zK [118,97,114]) (zA (yK (zB 2) (yU (wO (zB 5) zE) (zO zW xR rfl b xH (zA (zB 2) zC)))) zC))) zC)))) (zI (oQ (bV (zB 7) (zA (bD (zA (zK [105,115]) (zA (yK (zB 3) (yU (wO (zB 5) zE) (zB 4))) zC))) zC))))) (zI (zN 5 gB.nd (wO (zB 5) zE))))) (zI (zQ (bD (zA (zB 6) (zA (yY xS cV rfl i kT (zA (zB 7) zC)) zC))))))))))
    exact h
abbrev gK:Stmt:=top 51
def yE:FnScope gF [Ŝ,Ň,Ŋ,Ŏ,Ŕ] (zG gK):=fsK (by decide+kernel)
def KW(D:DefM K mg Ş gK)(i:Uv P w K mg base Ŭ 2 5 [ň,Ň,Ŋ,Ŏ,Ŕ] nI)(e:mg "tuple"=none)(r:mg "list"=none)(o:Uv P w K mg base Ŗ 1 2 [ň,ő] yV)(t:mg "range"=none)(j:mg "len"=none):Uv P w K mg base Ş 3 5 [Ŝ,Ň,Ŋ,Ŏ,Ŕ] wQ:=
 by have h:=HE (P:=P) (w:=w) (base:=base) D (λ_ _ _ _ _ _ m p=>match m,p with |[_,_,_,_,_],_=>rfl) λf u F=>FL (k:=2) _ F yE λq A b s H E a=>(zF (zN 5 yE.nd (yY xS cV rfl e kT (zA (gU (zG gK) gF [ň] [1,2,3,4] (bU (xQ (zB 0) (yO zE) yN)) rfl (λ_ _ _ _ d=>(xE 0 d)) (λ_ _ _ _=>jM) (λ_ _ _ _=>(zL i (a.mono (by decide)) rfl (zA (zB 0) (zA (zB 1) (zA (zB 2) (zA (zB 3) (zA (zB 4) zC)))))))) zC))) (zF (zN 6 yE.nd (yQ zC)) (zF (bE ö rfl (GD (zB 5)) (JK (n:=2) rfl (dE (xA 7 yE.nd) (dE (xA 8 yE.nd) JI))) (zI (zN 6 yE.nd (zT (zB 6) (yY UN Ti rfl r HZ (zA (zB 8) zC)))))) (zF (HS 9 yE.nd (zG gK) gF [ŭ] [6] (bU (zB 2)) rfl (λ_ _ _ _ d=>(xE 0 d)) (λ_ _ _ _=>(EL (Xa a.units (bD (zA (zK [118,97,114]) (zA (zB 0) zC))) (zB 1)))) (λ_ _ _ _=>(zB 0))) (zF (zN 10 yE.nd (zL o (a.mono (by decide)) rfl (zA (yK (zB 0) zE) (zA zE zC)))) (zF (zN 11 yE.nd (yQ zC)) (zF (bE ö rfl (jT rfl t (zA (zO zW xR rfl j xH (zA (zB 9) zC)) zC)) (xA 12 yE.nd) (zF (yI (Fe (yU (zB 10) zE) zE) (zI (oQ (bV (zB 11) (zA (yK (zB 9) (zB 12)) zC)))) zZ) (zI (zN 10 yE.nd (wO (zB 10) zE))))) (zF (yI (pI a.units (yU (zB 10) zE) zE) (zI (zN 11 yE.nd (Te (st:= -1) (by decide) (zB 11) yN yN Mn))) zZ) (zI (zQ (bD (zA (yY xS cV rfl e kT (zA (zB 11) zC)) (zA (zB 5) zC)))))))))))))
    exact h
abbrev oZ:Stmt:=top 52
def wW:FnScope IF [Ť] (zG oZ):=fsK (by decide+kernel)
def QJ(D:DefM K mg Ř oZ)(b:XTab K mg xM (Re xl))(a:mg "isinstance"=none):CalH P w K mg base Ř 1 1 [Ť] aZ:=
 by have h:=okCH (P:=P) (w:=w) (base:=base) D (λ_ _ _ _ _ _ e j=>match e,j with |[_],_=>rfl) λf m F=>okH (k:=0) _ F wW λi A d s H o n=>(zF (zN 1 wW.nd (yQ (zA (wV b NH (.head _) a rfl rfl (zB 0)) (zA (wV b NH t4M a rfl rfl (zB 0)) (zA (wV b NH t5M a rfl rfl (zB 0)) (zA (wV b NH t6M a rfl rfl (zB 0)) zC)))))) (zF (zN 1 wW.nd (zT (zB 1) (yQ (zA (wV b NH t7M a rfl rfl (zB 0)) (zA (wV b NH t1M a rfl rfl (zB 0)) (zA (wV b NH t2M a rfl rfl (zB 0)) (zA (wV b NH t3M a rfl rfl (zB 0)) zC))))))) (zF (zN 1 wW.nd (zT (zB 1) (yQ (zA (wV b NH t8M a rfl rfl (zB 0)) (zA (wV b NH t9M a rfl rfl (zB 0)) (zA (wV b NH t10M a rfl rfl (zB 0)) (zA (wV b NH t11M a rfl rfl (zB 0)) zC))))))) (zI (zQ (zB 1))))))
    exact h
def RI(D:DefM K mg Ř oZ)(b:XTab K mg xM (Re xl))(a:mg "isinstance"=none):Uv P w K mg base Ř 1 1 [Ť] aZ:=
 by have h:=HE (P:=P) (w:=w) (base:=base) D (λ_ _ _ _ _ _ e j=>match e,j with |[_],_=>rfl) λf m F=>FL (k:=0) _ F wW λi A d s H E n=>(zF (zN 1 wW.nd (yQ (zA (wV b NH (.head _) a rfl rfl (zB 0)) (zA (wV b NH t4M a rfl rfl (zB 0)) (zA (wV b NH t5M a rfl rfl (zB 0)) (zA (wV b NH t6M a rfl rfl (zB 0)) zC)))))) (zF (zN 1 wW.nd (zT (zB 1) (yQ (zA (wV b NH t7M a rfl rfl (zB 0)) (zA (wV b NH t1M a rfl rfl (zB 0)) (zA (wV b NH t2M a rfl rfl (zB 0)) (zA (wV b NH t3M a rfl rfl (zB 0)) zC))))))) (zF (zN 1 wW.nd (zT (zB 1) (yQ (zA (wV b NH t8M a rfl rfl (zB 0)) (zA (wV b NH t9M a rfl rfl (zB 0)) (zA (wV b NH t10M a rfl rfl (zB 0)) (zA (wV b NH t11M a rfl rfl (zB 0)) zC))))))) (zI (zQ (zB 1))))))
    exact h
abbrev sE:Stmt:=top 53
def jB:FnScope CO [ō] (zG sE):=fsK (by decide+kernel)
def XF(D:DefM K mg Ů sE)(p:mg "range"=none)(e:mg "len"=none)(b:mg "int"=none)(d:mg "str"=none):Uv P w K mg base Ů 1 1 [ō] rV:=
 by have h:=HE (P:=P) (w:=w) (base:=base) D (λ_ _ _ _ _ _ i m=>match i,m with |[_],_=>rfl) λf r F=>FL (k:=0) _ F jB λo A a s H E j=>(zF (zN 1 jB.nd (zT (gU (zG sE) CO [ŭ] [] (GD (yK (zB 0) zE)) rfl (λ_ _ _ _ q=>(xE 0 q)) (λ_ _ _ _=>jM) (λ_ _ _ _=>(zT (zK [63]) (zB 0)))) (yQ (zA (zK [58]) zC)))) (zF (bE ö rfl (jT rfl p (zA (zO zW xR rfl e xH (zA (yK (zB 0) zE) zC)) zC)) (xA 2 jB.nd) (zF (OJ (yK (yK (zB 0) zE) (zB 2)) (JK (n:=2) rfl (dE (xA 3 jB.nd) (dE (xA 4 jB.nd) JI)))) (zF (zN 1 jB.nd (zT (zT (zB 1) (vK (yQ (zA (zK [59]) zC)) (yY iE OO rfl b CB (zA (V6 (zB 2) zE) zC)))) (yQ (zA (yY LK Ms rfl d CC (zA (zB 3) zC)) zC)))) (zI (bE ö rfl (GD (zB 4)) (JK (n:=2) rfl (dE (xA 5 jB.nd) (dE (xA 6 jB.nd) JI))) (zI (oQ (bV (zB 1) (zA (zT (vK (zK [63]) (yY iE OO rfl b CB (zA (rL j.units (zB 5) (zK [118,97,114])) zC))) (yY LK Ms rfl d CC (zA (zB 6) zC))) zC))))))))) (zI (zQ (zB 1)))))
    exact h
abbrev DZ:Stmt:=top 54
def jC:FnScope LO [ŏ,ň,Ŋ] (zG DZ):=fsK (by decide+kernel)
def XG(D:DefM K mg ů DZ)(d:Uv P w K mg base Ŗ 1 2 [ň,ő] yV)(e:mg "len"=none):Uv P w K mg base ů 2 3 [ŏ,ň,Ŋ] nK:=
 by have h:=HE (P:=P) (w:=w) (base:=base) D (λ_ _ _ _ _ _ i m=>match i,m with |[_,_,_],_=>rfl) λf n F=>FL (k:=1) _ F jC λj A b s H E a=>(zF (zN 3 jC.nd (zL d (a.mono (by decide)) rfl (zA (zB 1) (zA zE zC)))) (zF (zN 4 jC.nd (yQ (zA (zK [58]) (zA (zK [59]) (zA (zK [63]) (zA (zK [63,63,97]) (zA (zK [63,65]) (zA (zK [63,97,98,99,100,101,102,103,104,105]) (zA (zK []) (zA (zK [48]) (zA (zK [49]) (zA (zK [51]) (zA (zK [52]) (zA (zK [45,49]) (zA (zK [45,48]) (zA (zK [48,49]) (zA (zK [97]) (zA (zK [65]) (zA (zK [97,49]) (zA (zK [120,63]) zC)))))))))))))))))))) (zF (zN 4 jC.nd (zT (zB 4) (yQ (zA (zT (zK [63]) (yK (zB 2) zE)) (zA (yK (zB 2) zE) (zA (zT (zK [63]) (yK (zB 2) zE)) (zA (zK [63,49]) (zA (zK [97,98,99,100,101,102,103,104]) (zA (zK [97,98,99,100,101,102,103,104,105]) (zA (vK (zK [57]) zE) (zA (vK (zK [57]) zE) zC))))))))))) (zF (zN 4 jC.nd (zT (zB 4) (yQ (zA (zK [63,59]) (zA (zK [58,63]) (zA (zK [55]) (zA (zK [43,55]) zC))))))) (zF (zN 5 jC.nd (yK (zB 4) (yU (wO (zB 3) zE) zE))) (zF (zN 6 jC.nd (yU (wO (zB 3) zE) (zT (zO zW xR rfl e xH (zA (zB 0) zC)) zE))) (zF (zN 7 jC.nd (yU (zB 3) zE)) (zF (yI (pI a.units (zB 7) zE) (zI (zQ (zT (xQ (zB 0) yN (yO (zB 6))) (xQ (zB 0) (yO (zT (zB 6) zE)) yN)))) zZ) (zF (yI (pI a.units (zB 7) zE) (zI (zQ (zT (xQ (zB 0) yN (yO (zT (zB 6) zE))) (xQ (zB 0) (yO (zB 6)) yN)))) zZ) (zF (yI (YR a.units (zB 7) zE) (zI (zQ (zT (zT (xQ (zB 0) yN (yO (zB 6))) (yQ (zA (zB 5) zC))) (xQ (zB 0) (yO (zT (zB 6) zE)) yN)))) zZ) (zF (yI (YR a.units (zB 7) zE) (zI (zQ (zT (zT (xQ (zB 0) yN (yO (zB 6))) (yQ (zA (zB 5) zC))) (xQ (zB 0) (yO (zB 6)) yN)))) zZ) (zF (yI (pI a.units (zB 7) zE) (zI (zQ (zT (zT (xQ (zB 0) yN (yO (zB 6))) (yQ (zA (IE (zK []) (zA (xQ (zB 0) (yO (zB 6)) (yO (zT (zB 6) zE))) zC)) zC))) (xQ (zB 0) (yO (zT (zB 6) zE)) yN)))) zZ) (zI (zQ (zB 0)))))))))))))))
    exact h
abbrev eI:Stmt:=top 55
def ML:FnScope [ŉ] [ŉ] (zG eI):=fsK (by decide+kernel)
def MM(D:DefM K mg Š eI)(d:mg "len"=none):Uv P w K mg base Š 1 1 [ŉ] bO:=
 by have h:=HE (P:=P) (w:=w) (base:=base) D (λ_ _ _ _ _ _ e j=>match e,j with |[_],_=>rfl) λf n F=>FL (k:=0) _ F ML λi A a s H E b=>(zI (zQ (lB (Ut b.units zE (zO zW xR rfl d xH (zA (zB 0) zC)) zE) (iZ (rL b.units (gU (zG eI) [ŉ] ["_law_sign"] [] (UV (zB 0)) rfl (λ_ _ _ _ m=>(xE 0 m)) (λ_ _ _ _=>(EL (OL b.units (zB 0) (zK [97,98,99,100,101,102,103,104,105,106,107,108,109,110,111,112,113,114,115,116,117,118,119,120,121,122])))) (λ_ _ _ _=>(zB 0))) (yQ zC))))))
    exact h
abbrev cH:Stmt:=top 56
def sF:FnScope fB [ŉ] (zG cH):=fsK (by decide+kernel)
def IU(D:DefM K mg ś cH)(d:mg "int"=none)(e:mg "len"=none):Uv P w K mg base ś 1 1 [ŉ] bY:=
 by have h:=HE (P:=P) (w:=w) (base:=base) D (λ_ _ _ _ _ _ i m=>match i,m with |[_],_=>rfl) λf o F=>FL (k:=0) _ F sF λj A b s H E a=>(zF (zN 1 sF.nd (xQ (zB 0) (yO (yY iE OO rfl d CB (zA (rL a.units (xQ (zB 0) yN (yO zE)) (zK [45])) zC))) yN)) (zF (yI (pG (oB (wG (Uu a.units zE (zO zW xR rfl e xH (zA (zB 1) zC)) zE)) (lE (LI a.units (gU (zG cH) fB ["_law_sign"] [] (UV (zB 1)) rfl (λ_ _ _ _ n=>(xE 0 n)) (λ_ _ _ _=>(EL (OL a.units (zB 0) (zK [48,49,50,51,52,53,54,55,56,57])))) (λ_ _ _ _=>(zB 0))) (yQ zC))))) (zI (zQ oA)) zZ) (zI (zQ (Wt (Wy a.units (yK (zB 1) zE) (zK [48])) (iZ (rL a.units (zB 0) (zK [48]))))))))
    exact h
abbrev qT:Stmt:=top 57
def MN:FnScope [ŕ] [ŕ] (zG qT):=fsK (by decide+kernel)
def MP(D:DefM K mg š qT)(d:Uv P w K mg base Š 1 1 [ŉ] bO)(m:Uv P w K mg base ś 1 1 [ŉ] bY)(e:mg "int"=none):Uv P w K mg base š 2 1 [ŕ] bP:=
 by have h:=HE (P:=P) (w:=w) (base:=base) D (λ_ _ _ _ _ _ i n=>match i,n with |[_],_=>rfl) λf o F=>FL (k:=1) _ F MN λj A b s H E a=>(zF (yI (pG (By (pI a.units (xQ (zB 0) yN (yO zE)) (zK [63])) (UU (zY (zL d (a.mono (by decide)) rfl (zA (xQ (zB 0) (yO zE) yN) zC)))))) (zI (zQ (bD (zA (zK [118,97,114]) (zA (xQ (zB 0) (yO zE) yN) zC))))) zZ) (zF (yI (zY (zL d (a.mono (by decide)) rfl (zA (zB 0) zC))) (zI (zQ (bD (zA (zK [105,115]) (zA (zB 0) zC))))) zZ) (zF (yI (zY (zL m (a.mono (by decide)) rfl (zA (zB 0) zC))) (zI (zQ (bD (zA (zK [105,115]) (zA (yY iE OO rfl e CB (zA (zB 0) zC)) zC))))) zZ) (zI (zQ iY)))))
    exact h
abbrev bT:Stmt:=top 58
def gC:FnScope nE [ŏ] (zG bT):=fsK (by decide+kernel)
def XH(D:DefM K mg Ű bT)(i:Uv P w K mg base š 2 1 [ŕ] bP)(m:mg "str"=none)(o:mg "isinstance"=none)(e:mg "tuple"=none):Uv P w K mg base Ű 3 1 [ŏ] rX:=
 by have h:=HE (P:=P) (w:=w) (base:=base) D (λ_ _ _ _ _ _ j p=>match j,p with |[_],_=>rfl) λf r F=>FL (k:=2) _ F gC λq A d s H E a=>(zF (yI (LI a.units (Va a.units (zB 0) (zA (zK [58]) zC)) zE) (zI (zQ iY)) zZ) (zF (zN 1 gC.nd (Uk a.units (zB 0) (zA (zK [58]) zC))) (zF (HS 2 gC.nd (zG bT) nE [ŕ] [] (bU (xQ (zB 0) yN (yO (zB 1)))) rfl (λ_ _ _ _ b=>(xE 0 b)) (λ_ _ _ _=>jM) (λ_ _ _ _=>(zL i (a.mono (by decide)) rfl (zA (zB 0) zC)))) (zF (yI (LI a.units (gU (zG bT) nE ["_law_term"] [] (bU (zB 2)) rfl (λ_ _ _ _ b=>(xE 0 b)) (λ_ _ _ _=>(EL (pG (oB (Ml (zB 0) iY) (lE (LI a.units (yK (zB 0) zE) (zK [118,97,114]))))))) (λ_ _ _ _=>(zB 0))) (yQ zC)) (zI (zQ iY)) zZ) (zF (zN 3 gC.nd (yQ (zA (yQ zC) zC))) (zF (bE ö rfl (bU (xQ (zB 0) (yO (zT (zB 1) zE)) yN)) (xA 4 gC.nd) (zI (yI (pI a.units (zB 4) (zK [59])) (zI (oQ (bV (zB 3) (zA (yQ zC) zC)))) (zI (oQ (bV (yK (zB 3) Lw) (zA (zL i (a.mono (by decide)) rfl (zA (zB 4) zC)) zC))))))) (zF (bE ö rfl (bU (zB 3)) (xA 5 gC.nd) (zI (yI (pG (oB (pI a.units (zB 5) (yQ zC)) (oB (Xa a.units iY (zB 5)) (oB (LI a.units (yK (yK (zB 5) zE) zE) (zK [105,115])) (lE (zY (zO wH bG rfl o yA (zA (yK (yK (zB 5) zE) zE) (zA (nR rfl m CC) zC))))))))) (zI (zQ iY)) zZ))) (zF (HS 6 gC.nd (zG bT) nE ["_law_atom_here"] [] (bU (zB 3)) rfl (λ_ _ _ _ b=>(xE 0 b)) (λ_ _ _ _=>jM) (λ_ _ _ _=>(bD (zA (yK (yK (zB 0) zE) zE) (zA (yY xS cV rfl e kT (zA (xQ (zB 0) (yO zE) yN) zC)) zC))))) (zI (zQ (bD (zA (yY xS cV rfl e kT (zA (gU (zG bT) nE [ŷ,ŭ] [] (bU (zB 2)) rfl (λ_ _ _ _ b=>(Ca (n:=2) rfl (EK (xE 0 b) (EK (xE 1 b) Bz)))) (λ_ _ _ _=>jM) (λ_ _ _ _=>(zB 1))) zC)) (zA (yY xS cV rfl e kT (zA (zB 6) zC)) zC)))))))))))))
    exact h
abbrev eK:Stmt:=top 59
def wX:FnScope oS [Ň,ō] (zG eK):=fsK (by decide+kernel)
def RJ(D:DefM K mg ŧ eK)(p:mg "range"=none)(a:mg "len"=none)(m:mg "set"=none):Uv P w K mg base ŧ 1 2 [Ň,ō] oW:=
 by have h:=HE (P:=P) (w:=w) (base:=base) D (λ_ _ _ _ _ _ i j=>match i,j with |[_,_],_=>rfl) λf q F=>FL (k:=0) _ F wX λo A e s H E b=>(zF (OJ (zB 1) (JK (n:=2) rfl (dE (xA 2 wX.nd) (dE (xA 3 wX.nd) JI)))) (zF (zN 4 wX.nd (yQ zC)) (zF (bE ö rfl (jT rfl p (zA (zO zW xR rfl a xH (zA (zB 3) zC)) zC)) (xA 5 wX.nd) (zF (OJ (yK (zB 3) (zB 5)) (JK (n:=2) rfl (dE (xA 6 wX.nd) (dE (xA 7 wX.nd) JI)))) (zF (yI (pG (oB (wG (Ta b.units zE (zB 6) (zO zW xR rfl a xH (zA (zB 0) zC)))) (lE (LI b.units (zO zW xR rfl a xH (zA (zB 7) zC)) (yK (yK (zB 0) (zB 6)) zE))))) (zI (zQ (zB 5))) zZ) (zI (zN 4 wX.nd (zT (zB 4) (gU (zG eK) oS [ŷ,Ŵ] [] (GD (zB 7)) rfl (λ_ _ _ _ d=>(Ca (n:=2) rfl (EK (xE 0 d) (EK (xE 1 d) Bz)))) (λ_ _ _ _=>(EL (pI b.units (zB 0) (zK [118,97,114])))) (λ_ _ _ _=>(zB 1))))))))) (zF (yI (pG (oB (Fe (zO zW xR rfl a xH (zA (zB 3) zC)) zE) (oB (Fe (zO zW xR rfl a xH (zA (zB 2) zC)) zE) (lE (YR b.units (Fv rfl rfl a rfl m (zA (zB 2) zC)) (zO zW xR rfl a xH (zA (zB 2) zC))))))) (zI (zQ (zO zW xR rfl a xH (zA (zB 3) zC)))) zZ) (zF (yI (LI b.units (gU (zG eK) oS [ŭ] [4] (GD (zB 2)) rfl (λ_ _ _ _ d=>(xE 0 d)) (λ_ _ _ _=>(EL (OL b.units (zB 0) (zB 1)))) (λ_ _ _ _=>(zB 0))) (yQ zC)) (zI (zQ (zO zW xR rfl a xH (zA (zB 3) zC)))) zZ) (zI (zQ iY)))))))
    exact h
abbrev eM:Stmt:=top 60
def kR:FnScope pL [Ň,ŉ,ŝ,ŗ] (zG eM):=fsK (by decide+kernel)
def MQ(D:DefM K mg ř eM)(e:XTab K mg xM (Re xl))(a:CalH P w K mg base Ř 1 1 [Ť] aZ)(j:mg "isinstance"=none)(q:mg "ValueError"=none)(r:Jn P w K mg base "read_question" 6 2 ["tables","text"] yD)(t:mg "range"=none)(o:mg "bool"=none):Uv P w K mg base ř 7 4 [Ň,ŉ,ŝ,ŗ] wI:=
 by have h:=HE (P:=P) (w:=w) (base:=base) D (λ_ _ _ _ _ _ m n=>match m,n with |[_,_,_,_],_=>rfl) λf y F=>FL (k:=6) _ F kR λp A d s H E b=>(zF (zN 4 kR.nd (yQ zC)) (zF (zN 5 kR.nd (zB 3)) (zF (Oh (i:=6) e rfl kR.nd r (b.mono (by decide)) rfl (zA (zB 0) (zA (zB 1) zC)) (λv=>(zF (zN 4 kR.nd (zT (Jp a ((b.inH v).mono (by decide)) rfl (zA (zB 6) zC)) (yQ (zA (C5 e j q rfl rfl (zB 6)) zC)))) (zI (yI (pI b.units (zB 2) zE) (zI (zN 5 kR.nd (E6 e (by decide) ZI (zB 6)))) zZ))))) (zI (zQ (lB (rL b.units (zB 4) (zT (gU (zG eM) pL [Ő] [2] (jT rfl t (zA zE zC)) rfl (λ_ _ _ _ u=>(xE 0 u)) (λ_ _ _ _=>jM) (λ_ _ _ _=>(rL b.units (zB 0) (zB 1)))) (yQ (zA oA zC)))) (lB (rL b.units (zB 5) (zB 3)) (iZ (Bx (zO wH bG rfl j yA (zA (zB 5) (zA (nR rfl o VB) zC))))))))))))
    exact h
abbrev AI:Stmt:=top 61
def uF:FnScope IG [Ň,ŉ] (zG AI):=fsK (by decide+kernel)
def RK(D:DefM K mg Ũ AI)(n:Uv P w K mg base Ű 3 1 [ŏ] rX)(d:Uv P w K mg base ř 7 4 [Ň,ŉ,ŝ,ŗ] wI)(m:Uv P w K mg base ŧ 1 2 [Ň,ō] oW)(i:Uv P w K mg base ť 8 2 [Ō,œ] (xW 8))(p:Jn P w K mg base "read_question" 6 2 ["tables","text"] yD):Uv P w K mg base Ũ 9 2 [Ň,ŉ] cB:=
 by have h:=HE (P:=P) (w:=w) (base:=base) D (λ_ _ _ _ _ _ e j=>match e,j with |[_,_],_=>rfl) λf q F=>FL (k:=8) _ F uF λo A b s H E a=>(zF (zN 2 uF.nd (zL n (a.mono (by decide)) rfl (zA (ZO (zB 1) (zA (zK [32]) zC)) zC))) (zF (yI (Ml (zB 2) iY) (zI (zQ (zL d (a.mono (by decide)) rfl (zA (zB 0) (zA (zB 1) (zA zE (zA zE zC))))))) zZ) (zF (zN 3 uF.nd (zL m (a.mono (by decide)) rfl (zA (zB 0) (zA (zB 2) zC)))) (zF (yI (Mm (zB 3) iY) (zI (zQ (zL d (a.mono (by decide)) rfl (zA (zB 0) (zA (zB 1) (zA zE (zA (zB 3) zC))))))) zZ) (zI (zQ (zL i (a.mono (by decide)) rfl (zA (zL p.noX (a.mono (by decide)) rfl (zA (zB 0) (zA (zB 1) zC))) (zA (zB 2) zC)))))))))
    exact h
abbrev Hr:Stmt:=top 62
def mX:FnScope Fz [ŋ] (zG Hr):=fsK (by decide+kernel)
def N9(F:Fun K "law" "law" Hr f fd)(q:Uv P w K mg base Ŧ 2 2 [ň,Ś] hZ)(b:Uv P w K mg base ş 1 2 [ŋ,Ő] yG)(r:Uv P w K mg base ū 2 1 [ň] nH)(m:Uv P w K mg base Ţ 2 2 [ň,ũ] gO)(i:mg "range"=none)(j:Uv P w K mg base Ů 1 1 [ō] rV)(p:Uv P w K mg base Ş 3 5 [Ŝ,Ň,Ŋ,Ŏ,Ŕ] wQ)(e:Uv P w K mg base Ũ 9 2 [Ň,ŉ] cB)(n:Uv P w K mg base ů 2 3 [ŏ,ň,Ŋ] nK)(o:Uv P w K mg base ř 7 4 [Ň,ŉ,ŝ,ŗ] wI):FnOk P w K mg base LD 10 f fd [ŋ] (XS ⟨K,mg,P,w⟩ 1 TL):=
 by have h:=FL (P:=P) (w:=w) (mg:=mg) (base:=base) (k:=9) _ F mX λt A d s H E a=>(zF (zN 1 mX.nd (zL q (a.mono ↑4) rfl (zA (zL b (a.mono ↑4) rfl (zA (zB 0) (zA zE zC))) (zA zE zC)))) (zF (zN 2 mX.nd (zL r (a.mono ↑4) rfl (zA (zL b (a.mono ↑4) rfl (zA (zB 0) (zA zE zC))) zC))) (zF (zN 3 mX.nd (zL m (a.mono ↑4) rfl (zA (zL b (a.mono ↑4) rfl (zA (zB 0) (zA zE zC))) (zA zE zC)))) (zF (zN 4 mX.nd (zT zE (yU (wO (zL b (a.mono ↑4) rfl (zA (zB 0) (zA zE zC))) zE) zE))) (zF (HS 5 mX.nd (zG Hr) Fz [Ő] [0] (jT rfl i (zA (zT zE (zB 4)) zC)) rfl (λ_ _ _ _ u=>(xE 0 u)) (λ_ _ _ _=>jM) (λ_ _ _ _=>(zL b (a.mono ↑4) rfl (zA (zB 1) (zA (zT zE (zB 0)) zC))))) (zF (zN 6 mX.nd (zL j (a.mono ↑4) rfl (zA (zL p (a.mono ↑4) rfl (zA (zB 5) (zA (zB 3) (zA (zB 1) (zA (zB 2) (zA zE zC)))))) zC))) (zF (yI (wG (zY (zL e (a.mono ↑4) rfl (zA (zB 3) (zA (IE (zK [32]) (zA (zB 6) zC)) zC))))) (zI (zQ oA)) zZ) (zF (bE ö rfl (jT rfl i (zA zE zC)) (xA 7 mX.nd) (zF (zN 6 mX.nd (zL n (a.mono ↑4) rfl (zA (zB 6) (zA (zL b (a.mono ↑4) rfl (zA (zB 0) (zA (zT zE (zB 7)) zC))) (zA (zB 1) zC))))) (zF (zN 8 mX.nd (yK (yQ (zA (zK [32]) (zA (zK [32,32]) (zA (zK [32]) zC)))) (yU (yU (wO (zL b (a.mono ↑4) rfl (zA (zB 0) (zA zE zC))) (zT (zB 7) zE)) zE) zE))) (zF (zN 9 mX.nd (zT (zT (IE (zK [32]) (zA (xQ (zB 6) yN (yO zE)) zC)) (zB 8)) (IE (zK [32]) (zA (xQ (zB 6) (yO zE) yN) zC)))) (zI (yI (pG (oB (wG (zY (zL e (a.mono ↑4) rfl (zA (zB 3) (zA (zB 9) zC))))) (lE (wG (zY (zL e (a.mono ↑4) rfl (zA (zB 3) (zA (IE (zK [32]) (zA (zB 6) zC)) zC)))))))) (zI (zQ oA)) zZ)))))) (zF (bE ö rfl (bU (yQ (zA iY (zA zE (zA oA (zA (bD (zA (zK [58,32,48]) zC)) (zA (yQ (zA (zK [58]) zC)) zC))))))) (xA 10 mX.nd) (zI (yI (wG (zY (zL o (a.mono ↑4) rfl (zA (zB 3) (zA (zB 10) (zA zE (zA zE zC))))))) (zI (zQ oA)) zZ))) (zI (zQ oA)))))))))))
    exact h
end
def all_mk{l:PySem.W.OpenLaw}{K:P0}(X:K.In h)(j:h.Ns mainGlobals mg)(ax:mg "law"=some (.ref fa))
  (D0:DefM K mg "is_whole" GV)
  (D1:DefM K mg "is_name" FB)
  (D2:DefM K mg "is_value" GW)
  (D3:DefM K mg "is_tuple" GX)
  (D4:DefM K mg "is_number_below" eG)
  (D5:DefM K mg "is_term" KR)
  (D6:DefM K mg "is_atom" FC)
  (D7:DefM K mg "names_in" HA)
  (D8:DefM K mg "is_head" FD)
  (D9:DefM K mg "listed" QG)
  (D10:DefM K mg "question_of" uD)
  (D11:DefM K mg "writes_number" dQ)
  (D12:DefM K mg "read_value" AG)
  (D13:DefM K mg "read_name" DT)
  (D14:DefM K mg "read_term" DU)
  (D15:DefM K mg "read_atom" sC)
  (D16:DefM K mg "parted_at" DV)
  (D17:DefM K mg "read_question" gI)
  (D18:DefM K mg ş qS)
  (D19:DefM K mg Ŗ HB)
  (D20:DefM K mg Ū DW)
  (D21:DefM K mg ū DX)
  (D22:DefM K mg ť oX)
  (D23:DefM K mg Ţ uE)
  (D24:DefM K mg Ŧ oY)
  (D25:DefM K mg Ŭ DY)
  (D26:DefM K mg Ş gK)
  (D27:DefM K mg Ř oZ)
  (D28:DefM K mg Ů sE)
  (D29:DefM K mg ů DZ)
  (D30:DefM K mg Š eI)
  (D31:DefM K mg ś cH)
  (D32:DefM K mg š qT)
  (D33:DefM K mg Ű bT)
  (D34:DefM K mg ŧ eK)
  (D35:DefM K mg ř eM)
  (D36:DefM K mg Ũ AI)
  (D37:DefM K mg "law" Hr)
    (LA:PySem.W.nsIn K mainGlobals "FIGURES"=some (some (.str v_FIGURES KZ))) (Kc:v_FIGURES=yZ [48,49,50,51,52,53,54,55,56,57])
   (AT:PySem.W.nsIn K mainGlobals "MOST_ATOMS"=some (some (.int (4) AN)))
   (rA:PySem.W.nsIn K mainGlobals "MOST_FIGURES"=some (some (.int (30) qU)))
   (qZ:PySem.W.nsIn K mainGlobals "MOST_LETTERS"=some (some (.int (8) qY)))
   (AS:PySem.W.nsIn K mainGlobals "MOST_NAMES"=some (some (.int (4) AR)))
    (Ay:PySem.W.nsIn K mainGlobals "MendError"=some (some (.ref q0a))) (x_MendError:CG K q0a iV q0n)
    (Dx:PySem.W.nsIn K mainGlobals "TooGreat"=some (some (.ref q0c))) (x_TooGreat:CG K q0c (.ref q0a::iV) q0o)
    (Qu:PySem.W.nsIn K mainGlobals "NoText"=some (some (.ref q0h))) (x_NoText:CG K q0h (.ref q0a::iV) q0r)
    (Kg:PySem.W.nsIn K mainGlobals "NoPlace"=some (some (.ref q0e))) (x_NoPlace:CG K q0e (.ref q0a::iV) q0q)
    (Ea:PySem.W.nsIn K mainGlobals "NotPlain"=some (some (.ref q0d))) (x_NotPlain:CG K q0d (.ref q0a::iV) q0p)
    (Kh:PySem.W.nsIn K mainGlobals "NoTable"=some (some (.ref q0f))) (x_NoTable:CG K q0f (.ref q0a::iV) q0t)
    (Qy:PySem.W.nsIn K mainGlobals "NoRule"=some (some (.ref q0i))) (x_NoRule:CG K q0i (.ref q0a::iV) q0v)
    (Wj:PySem.W.nsIn K mainGlobals "NoRow"=some (some (.ref q0k))) (x_NoRow:CG K q0k (.ref q0a::iV) q0x)
    (Wi:PySem.W.nsIn K mainGlobals "Twice"=some (some (.ref q0l))) (x_Twice:CG K q0l (.ref q0a::iV) q0y)
    (XJ:PySem.W.nsIn K mainGlobals "NoQuestion"=some (some (.ref q0b))) (x_NoQuestion:CG K q0b (.ref q0a::iV) q0s)
    (Qx:PySem.W.nsIn K mainGlobals "Double"=some (some (.ref q0j))) (x_Double:CG K q0j (.ref q0a::iV) q0w)
    (Kb:PySem.W.nsIn K mainGlobals "TooWide"=some (some (.ref q0g))) (x_TooWide:CG K q0g (.ref q0a::iV) q0u)
    (O1:PySem.W.nsIn K mainGlobals "Ring"=some (some (.ref q0m))) (x_Ring:CG K q0m (.ref q0a::iV) q0z)
  (j_MendError:q0n=none)
  (j_TooGreat:q0o=none)
  (j_NoText:q0r=none)
  (j_NoPlace:q0q=none)
  (j_NotPlain:q0p=none)
      (y_NoQuestion:XIn K q0a q0b I_NoQuestion) (lI_NoQuestion:K.lookup I_NoQuestion=some ⟨ocI_NoQuestion,odI_NoQuestion,.func (PySem.W.fnOf "__init__" "NoQuestion.__init__" (rD dA) (gR dA) (zG dA) .none kVI_NoQuestion dcI_NoQuestion pmI_NoQuestion anI_NoQuestion cdI_NoQuestion ctI_NoQuestion),slI_NoQuestion⟩) (cI_NoQuestion:PySem.W.codeIn K cdI_NoQuestion "NoQuestion.__init__"=true) (kI_NoQuestion:PySem.W.keepIn K (.ref I_NoQuestion)=true)
  (xm:XMn K q0a)
  (xd:[q0a,q0c,q0h,q0e,q0d,q0f,q0i,q0k,q0l,q0b,q0j,q0g,q0m].Nodup)
  (AM:PySem.W.nsIn K mainGlobals "ValueError"=some none)
  (Qw:PySem.W.nsIn K mainGlobals "abs"=some none)
  (EC:PySem.W.nsIn K mainGlobals "all"=some none)
  (HC:PySem.W.nsIn K mainGlobals "bool"=some none)
  (ED:PySem.W.nsIn K mainGlobals "enumerate"=some none)
  (qX:PySem.W.nsIn K mainGlobals "int"=some none)
  (zH:PySem.W.nsIn K mainGlobals "isinstance"=some none)
  (yS:PySem.W.nsIn K mainGlobals "len"=some none)
  (uG:PySem.W.nsIn K mainGlobals "list"=some none)
  (wF:PySem.W.nsIn K mainGlobals "range"=some none)
  (Az:PySem.W.nsIn K mainGlobals "set"=some none)
  (qW:PySem.W.nsIn K mainGlobals "str"=some none)
  (xN:PySem.W.nsIn K mainGlobals "tuple"=some none)
  (Qv:PySem.W.nsIn K mainGlobals "zip"=some none)
  : ∃fd:FuncData,(∀ s  v ,BindsTo s fd ⟨[v],[]⟩ [(ŋ,v)])/\ ∀base:Heap,K.In base->base.Ns mainGlobals mg->FnOk l.prog w K mg base LD 10 fa fd [ŋ] (SU K TL):=by
 have B:=PySem.W.mg_none_of X j AM;have J:=PySem.W.mg_none_of X j Qw;have y:=PySem.W.mg_none_of X j EC;have C:=PySem.W.mg_none_of X j HC;have D:=PySem.W.mg_none_of X j ED;have k:=PySem.W.mg_none_of X j qX;have a:=PySem.W.mg_none_of X j zH;have b:=PySem.W.mg_none_of X j yS;have r:=PySem.W.mg_none_of X j uG;have d:=PySem.W.mg_none_of X j wF;have H:=PySem.W.mg_none_of X j Az;have o:=PySem.W.mg_none_of X j qW;have e:=PySem.W.mg_none_of X j xN;have L:=PySem.W.mg_none_of X j Qv;subst Kc;have E:=PySem.W.mg_of X j LA;have A:=PySem.W.mg_of X j AT;have q:=PySem.W.mg_of X j rA;have p:=PySem.W.mg_of X j qZ;have z:=PySem.W.mg_of X j AS;subst j_MendError;subst j_TooGreat;subst j_NoText;subst j_NoPlace;subst j_NotPlain;let xl:Nat->Addr:=λn=>[q0c,q0h,q0e,q0d,q0f,q0i,q0k,q0l,q0b,q0j,q0g,q0m].getD n 0;have I:XTab K mg q0a (Re xl):=⟨PySem.W.mg_of X j Ay,x_MendError,⟨⟨PySem.W.mg_of X j Dx,_,x_TooGreat⟩,⟨PySem.W.mg_of X j Qu,_,x_NoText⟩,⟨PySem.W.mg_of X j Kg,_,x_NoPlace⟩,⟨PySem.W.mg_of X j Ea,_,x_NotPlain⟩,⟨PySem.W.mg_of X j Kh,_,x_NoTable⟩,⟨PySem.W.mg_of X j Qy,_,x_NoRule⟩,⟨PySem.W.mg_of X j Wj,_,x_NoRow⟩,⟨PySem.W.mg_of X j Wi,_,x_Twice⟩,⟨PySem.W.mg_of X j XJ,_,x_NoQuestion⟩,⟨PySem.W.mg_of X j Qx,_,x_Double⟩,⟨PySem.W.mg_of X j Kb,_,x_TooWide⟩,⟨PySem.W.mg_of X j O1,_,x_Ring⟩,trivial⟩,xd⟩
 have i:=Lk (st:=dA) lI_NoQuestion cI_NoQuestion kI_NoQuestion;have u:=i.binds (ps:=["self","place"]) λ_ _ _ _ _ _ us hl=>match us,hl with |[_,_],_=>rfl
 refine E7 D37 ax (λ_ _ _ _ _ _ s v=>.of_eq rfl) λbase f fd F=>?_;have t:FnOk l.prog w K mg base LD 1 I_NoQuestion _ ["self","place"] (Fw q0b "place"):=Us i QD x_MendError y_NoQuestion xm I.m rfl (λ_=>rfl) (λ_=>rfl) (λ_=>rfl) rfl rfl rfl ↑4 ↑4 (.txt ↑4 (.fld (.nil))) ↑4 ↑4 ZI;have G0:=An (P:=l.prog) (w:=w) (base:=base) D0 k a C;have U:=Ds (P:=l.prog) (w:=w) (base:=base) D1 o a b p y;have G2:=Ap (P:=l.prog) (w:=w) (base:=base) D2 G0 J U;have G3:=Ar (P:=l.prog) (w:=w) (base:=base) D3 e a b;have G4:=GZ (P:=l.prog) (w:=w) (base:=base) D4 G0;have G5:=Du (P:=l.prog) (w:=w) (base:=base) D5 G3 U G2;have G6:=Dv (P:=l.prog) (w:=w) (base:=base) D6 G3 G4 b G5 y;have G7:=As (P:=l.prog) (w:=w) (base:=base) D7 r;have G8:=Dw (P:=l.prog) (w:=w) (base:=base) D8 G7 b z y H;have G9:=Ka (P:=l.prog) (w:=w) (base:=base) D9 r e a;have au:=QH (P:=l.prog) (w:=w) (base:=base) D10 I G9 y_NoQuestion t u D G6 b A G8 e;have M:=KS (P:=l.prog) (w:=w) (base:=base) D11 b q E y;have N:=RE (P:=l.prog) (w:=w) (base:=base) D12 I o a x_NoText U M k;have S:=WV (P:=l.prog) (w:=w) (base:=base) D13 I U x_NoText;have ay:=WX (P:=l.prog) (w:=w) (base:=base) D14 S N;have ai:=WZ (P:=l.prog) (w:=w) (base:=base) D15 I b M x_NoText N ay e;have aq:=XA (P:=l.prog) (w:=w) (base:=base) D16;have Q:=KU (P:=l.prog) (w:=w) (base:=base) D17 I o a x_NoText aq b S ai au;have Y:=MK (P:=l.prog) (w:=w) (base:=base) D18 b;have G:=Au (P:=l.prog) (w:=w) (base:=base) D19;have ar:=XC (P:=l.prog) (w:=w) (base:=base) D20 d;have az:=XD (P:=l.prog) (w:=w) (base:=base) D21 G ar b;have aj:=RG (P:=l.prog) (w:=w) (base:=base) D22 o a k C r e b L y;have ab:=QI (P:=l.prog) (w:=w) (base:=base) D23 G d e;have av:=RH (P:=l.prog) (w:=w) (base:=base) D24 G d;have ah:=XE (P:=l.prog) (w:=w) (base:=base) D25 G b d e;have a0:=KW (P:=l.prog) (w:=w) (base:=base) D26 ah e r G d b;have O:=QJ (P:=l.prog) (w:=w) (base:=base) D27 I a;have a3:=RI (P:=l.prog) (w:=w) (base:=base) D27 I a;have af:=XF (P:=l.prog) (w:=w) (base:=base) D28 d b k o;have aw:=XG (P:=l.prog) (w:=w) (base:=base) D29 G b;have ae:=MM (P:=l.prog) (w:=w) (base:=base) D30 b;have ag:=IU (P:=l.prog) (w:=w) (base:=base) D31 k b;have aa:=MP (P:=l.prog) (w:=w) (base:=base) D32 ae ag k;have ao:=XH (P:=l.prog) (w:=w) (base:=base) D33 aa o a e;have Z:=RJ (P:=l.prog) (w:=w) (base:=base) D34 d b H;have T:=MQ (P:=l.prog) (w:=w) (base:=base) D35 I O a B Q d C;have ak:=RK (P:=l.prog) (w:=w) (base:=base) D36 ao T Z aj Q;exact N9 (P:=l.prog) (w:=w) (base:=base) F av Y az ab d af a0 ak aw T
def walk{l:PySem.W.OpenLaw}{K:Params->PySem.W.Frag}(j:l.most=some 63)(b:d.params.defaults=[])
  (hY: ∀ w  h ,YP w h->(K w.params).In h)
  (F: ∀ w  mg  i  h ,(K w.params).In h->h.Ns mainGlobals mg->mg d.name=some (.ref i)->
   ∃e:FuncData,(∀ s  u ,BindsTo s e ⟨[u],[]⟩ [(ŋ,u)])/\ ∀base:Heap,(K w.params).In base->base.Ns mainGlobals mg->FnOk l.prog w (K w.params) mg base LD 10 i e [ŋ] (SU (K w.params) TL)):
  PySem.W.WalkO q loose XP YP l.row.toRowW d [] (λf o=>PySem.call f o):=
 L2.walk_of (n:=63) (k:=10) (x:=ŋ) (CX:=λ_=>LD) (sp:=λw=>SU (K w.params) TL) j ↑4 b ⟨rfl,by decide,by decide⟩ hY F
  (λw H a m r p t=>Mx p t (Qt m r)) λ_ _ _ _ _ z=>z
end My
end M
end L2
namespace PySem.W.Fast
def tw8757479542965332433:=0
theorem te8757479542965332433:tw8757479542965332433=0:=rfl
def tw4659200084024627884:=0
theorem te4659200084024627884:tw4659200084024627884=0:=rfl
def tw10602419660259801186:=0
theorem te10602419660259801186:tw10602419660259801186=0:=rfl
def tw12033737230341270235:=0
theorem te12033737230341270235:tw12033737230341270235=0:=rfl
def tw12330254316085492561:=0
theorem te12330254316085492561:tw12330254316085492561=0:=rfl
def tw1129415932070161101:=0
theorem te1129415932070161101:tw1129415932070161101=0:=rfl
def tw8760294844533168067:=0
theorem te8760294844533168067:tw8760294844533168067=0:=rfl
def tw15286374692894092539:=0
theorem te15286374692894092539:tw15286374692894092539=0:=rfl
def tw11093692205583076338:=0
theorem te11093692205583076338:tw11093692205583076338=0:=rfl
def tw4500920326119203686:=0
theorem te4500920326119203686:tw4500920326119203686=0:=rfl
def tw6676500367433703352:=0
theorem te6676500367433703352:tw6676500367433703352=0:=rfl
def tw593988391094535827:=0
theorem te593988391094535827:tw593988391094535827=0:=rfl
def tw10398241504976923397:=0
theorem te10398241504976923397:tw10398241504976923397=0:=rfl
def tw13978621550670718579:=0
theorem te13978621550670718579:tw13978621550670718579=0:=rfl
def tw12662697808706501999:=0
theorem te12662697808706501999:tw12662697808706501999=0:=rfl
def tw6000344637786267100:=0
theorem te6000344637786267100:tw6000344637786267100=0:=rfl
def tw17726504553690344846:=0
theorem te17726504553690344846:tw17726504553690344846=0:=rfl
def tw10615591519121016512:=0
theorem te10615591519121016512:tw10615591519121016512=0:=rfl
def tw12978483241477110017:=0
theorem te12978483241477110017:tw12978483241477110017=0:=rfl
def tw15992973811201327784:=0
theorem te15992973811201327784:tw15992973811201327784=0:=rfl
def tw15438649600146347955:=0
theorem te15438649600146347955:tw15438649600146347955=0:=rfl
def tw6936802855017448126:=0
theorem te6936802855017448126:tw6936802855017448126=0:=rfl
def tw15407860550815273164:=0
theorem te15407860550815273164:tw15407860550815273164=0:=rfl
def tw13691510014375018024:=0
theorem te13691510014375018024:tw13691510014375018024=0:=rfl
def tw13768382387148193856:=0
theorem te13768382387148193856:tw13768382387148193856=0:=rfl
def tw13755714478834004151:=0
theorem te13755714478834004151:tw13755714478834004151=0:=rfl
def tw9053527727075963917:=0
theorem te9053527727075963917:tw9053527727075963917=0:=rfl
def tw1947433514986843729:=0
theorem te1947433514986843729:tw1947433514986843729=0:=rfl
def tw8700185537195495156:=0
theorem te8700185537195495156:tw8700185537195495156=0:=rfl
def tw5642470577043541918:=0
theorem te5642470577043541918:tw5642470577043541918=0:=rfl
def tw8285094148529945652:=0
theorem te8285094148529945652:tw8285094148529945652=0:=rfl
def tw18028550937196176800:=0
theorem te18028550937196176800:tw18028550937196176800=0:=rfl
def tw15750799479652957221:=0
theorem te15750799479652957221:tw15750799479652957221=0:=rfl
def tw11011137801376956719:=0
theorem te11011137801376956719:tw11011137801376956719=0:=rfl
def tw13396616456693286964:=0
theorem te13396616456693286964:tw13396616456693286964=0:=rfl
def tw11313808639342699209:=0
theorem te11313808639342699209:tw11313808639342699209=0:=rfl
def tw16487375840041161398:=0
theorem te16487375840041161398:tw16487375840041161398=0:=rfl
def tw9871029412132116799:=0
theorem te9871029412132116799:tw9871029412132116799=0:=rfl
def tw4389670056793848025:=0
theorem te4389670056793848025:tw4389670056793848025=0:=rfl
def tw17701026165043113120:=0
theorem te17701026165043113120:tw17701026165043113120=0:=rfl
def tw6645039542919776277:=0
theorem te6645039542919776277:tw6645039542919776277=0:=rfl
def tw11545391332619096625:=0
theorem te11545391332619096625:tw11545391332619096625=0:=rfl
def tw5690628183677731656:=0
theorem te5690628183677731656:tw5690628183677731656=0:=rfl
def tw715401821929439247:=0
theorem te715401821929439247:tw715401821929439247=0:=rfl
def tw9826826423356466766:=0
theorem te9826826423356466766:tw9826826423356466766=0:=rfl
def tw7466593719245761675:=0
theorem te7466593719245761675:tw7466593719245761675=0:=rfl
def tw18166035503670432079:=0
theorem te18166035503670432079:tw18166035503670432079=0:=rfl
def tw17624370940522066908:=0
theorem te17624370940522066908:tw17624370940522066908=0:=rfl
def tw16466052307843222592:=0
theorem te16466052307843222592:tw16466052307843222592=0:=rfl
def tw5573034796185552551:=0
theorem te5573034796185552551:tw5573034796185552551=0:=rfl
def tw3994276020236830908:=0
theorem te3994276020236830908:tw3994276020236830908=0:=rfl
def tw883266874763853015:=0
theorem te883266874763853015:tw883266874763853015=0:=rfl
def tw5342411158858843215:=0
theorem te5342411158858843215:tw5342411158858843215=0:=rfl
def tw9560400670248953338:=0
theorem te9560400670248953338:tw9560400670248953338=0:=rfl
def tw13050074769987105279:=0
theorem te13050074769987105279:tw13050074769987105279=0:=rfl
def tw9851272666278413546:=0
theorem te9851272666278413546:tw9851272666278413546=0:=rfl
def tw6052054960846449511:=0
theorem te6052054960846449511:tw6052054960846449511=0:=rfl
def tw5282527653835333293:=0
theorem te5282527653835333293:tw5282527653835333293=0:=rfl
def tw429222310627146101:=0
theorem te429222310627146101:tw429222310627146101=0:=rfl
def tw5258808801992548808:=0
theorem te5258808801992548808:tw5258808801992548808=0:=rfl
def tw15814663430597586209:=0
theorem te15814663430597586209:tw15814663430597586209=0:=rfl
def tw9807107482731475732:=0
theorem te9807107482731475732:tw9807107482731475732=0:=rfl
def tw7959390969393671630:=0
theorem te7959390969393671630:tw7959390969393671630=0:=rfl
def tw4859549491126093675:=0
theorem te4859549491126093675:tw4859549491126093675=0:=rfl
def tw1336107702901339155:=0
theorem te1336107702901339155:tw1336107702901339155=0:=rfl
def tw863514064110390471:=0
theorem te863514064110390471:tw863514064110390471=0:=rfl
def tw16328767358266873703:=0
theorem te16328767358266873703:tw16328767358266873703=0:=rfl
def tw118715171198536017:=0
theorem te118715171198536017:tw118715171198536017=0:=rfl
def tw12278098878378341805:=0
theorem te12278098878378341805:tw12278098878378341805=0:=rfl
def tw1762299347835211910:=0
theorem te1762299347835211910:tw1762299347835211910=0:=rfl
def tw6856801583296533493:=0
theorem te6856801583296533493:tw6856801583296533493=0:=rfl
def tw793906726642488283:=0
theorem te793906726642488283:tw793906726642488283=0:=rfl
def tw3782647742289821521:=0
theorem te3782647742289821521:tw3782647742289821521=0:=rfl
def tw1440811807299984083:=0
theorem te1440811807299984083:tw1440811807299984083=0:=rfl
def tw11593634586665322340:=0
theorem te11593634586665322340:tw11593634586665322340=0:=rfl
def tw10175872604276205377:=0
theorem te10175872604276205377:tw10175872604276205377=0:=rfl
def tw3695540652868421515:=0
theorem te3695540652868421515:tw3695540652868421515=0:=rfl
def tw9521747115421063497:=0
theorem te9521747115421063497:tw9521747115421063497=0:=rfl
def tw2006686379554297774:=0
theorem te2006686379554297774:tw2006686379554297774=0:=rfl
def tw5365766568377874834:=0
theorem te5365766568377874834:tw5365766568377874834=0:=rfl
def tw17583423653129808559:=0
theorem te17583423653129808559:tw17583423653129808559=0:=rfl
def tw13296160907782886680:=0
theorem te13296160907782886680:tw13296160907782886680=0:=rfl
def tw13415895930506068255:=0
theorem te13415895930506068255:tw13415895930506068255=0:=rfl
def tw12775640814838655955:=0
theorem te12775640814838655955:tw12775640814838655955=0:=rfl
def tw688871852220921273:=0
theorem te688871852220921273:tw688871852220921273=0:=rfl
def tw17861024462962431579:=0
theorem te17861024462962431579:tw17861024462962431579=0:=rfl
def tw1744428100814785061:=0
theorem te1744428100814785061:tw1744428100814785061=0:=rfl
def tw3501783434938987132:=0
theorem te3501783434938987132:tw3501783434938987132=0:=rfl
end PySem.W.Fast
open PySem PySem.W PyProof.Rows
set_option maxRecDepth 100000 in
set_option maxHeartbeats 0 in
theorem PySem.Challenge.cw_mendsure_k38_texts_of_no_question_holds : PySem.Challenge.rw_mendsure_k38_texts_of_no_question.Holds := by
  w_on; o_law; k_head; (case hw => w_witness2)
  k_fill
  refine L2.M.My.walk (l := PySem.Challenge.rw_mendsure_k38_texts_of_no_question) rfl rfl (fun w h Y => PySem.W.kIn_of Y) ?F
  case F =>
    intro w mg b h KX G a
    refine' L2.M.My.all_mk KX G a ?_ ?_ ?_ ?_ ?_ ?_ ?_ ?_ ?_ ?_ ?_ ?_ ?_ ?_ ?_ ?_ ?_ ?_ ?_ ?_ ?_ ?_ ?_ ?_ ?_ ?_ ?_ ?_ ?_ ?_ ?_ ?_ ?_ ?_ ?_ ?_ ?_ ?_ ?_ ?_ ?_ ?_ ?_ ?_ ?_ ?_ ?_ ?_ ?_ ?_ ?_ ?_ ?_ ?_ ?_ ?_ ?_ ?_ ?_ ?_ ?_ ?_ ?_ ?_ ?_ ?_ ?_ ?_ ?_ ?_ ?_ ?_ ?_ ?_ ?_ ?_ ?_ ?_ ?_ ?_ ?_ ?_ ?_ ?_ ?_ ?_ ?_ ?_ ?_ ?_ ?_ ?_ ?_ ?_ ?_
    any_goals first | (exact L2.M.def_mk (by k_is) (by k_is) (by k_is) (by k_is) KX G) | (k_is) | (rfl) | (exact L2.M.xcl_mk (by k_is) (by k_is) rfl (by k_is) (by k_is) (by k_is) (by k_is) (by k_is) (by k_is) (by k_is) rfl) | (exact L2.M.xin_mk (by k_is) (by k_is) rfl (by k_is) (by k_is) (by k_is) (by k_is) (by k_is) (by k_is) (by k_is) (by k_is) rfl) | (exact ⟨by k_is, by k_is, by k_is⟩) | (decide) | (show PySem.W.nsIn _ _ _ = _; k_is)
